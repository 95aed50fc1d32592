import PyProof.Rows.All
import Wide.All
import OpenK.AllK
import Wide.FinOn
import PyProof.EqAt
import PyProof.EqKinds
import PyProof.TupleCall
import PySem.Challenge.RW_dyeweb_k18_no_web
set_option genSizeOf false
-- CHANGE: your row's module here, as the last of these rows
set_option Elab.async false
set_option linter.all false
set_option maxRecDepth 100000
/-! THE HAND LAYER, for ints, bools, texts, own classes, LISTS and tuples (index, slices, in, append, pop ..), calls, loops. Paste it whole ahead of your own text; what your proof does not reach may be deleted. -/
namespace L2
open PySem PySem.Spec PyProof.Rows

/-- a key: an int or a str -/
noncomputable abbrev Key := Sum Int Str
noncomputable def keyIs : Key → Value → Bool
  | .inl k, v => Value.isInt k v
  | .inr x, v => Value.isStrOf x v
noncomputable def keyH (w : World) : Key → Int
  | .inl k => hashInt k
  | .inr x => hashStr w x
theorem keyIs_shape : ∀ {k : Key} {v : Value}, keyIs k v = true → (∃ i t, k = Sum.inl i ∧ v = Value.int i t) ∨ (∃ x t, k = Sum.inr x ∧ v = Value.str x t)
  | .inl i, v, h => by
    obtain ⟨t, e⟩ := Value.isInt_shape (k := i) (v := v) h
    exact .inl ⟨i, t, rfl, e⟩
  | .inr x, v, h => by
    obtain ⟨t, e⟩ := Value.isStrOf_shape (x := x) (v := v) h
    exact .inr ⟨x, t, rfl, e⟩
theorem key_ll (a b : Int) : decide ((Sum.inl a : Key) = Sum.inl b) = (a == b) := by
  by_cases e : a = b
  · subst e; simp
  · have h : ¬ (Sum.inl a : Key) = Sum.inl b := fun q => e (Sum.inl.inj q)
    rw [decide_eq_false h]
    exact (beq_eq_false_iff_ne.mpr e).symm
theorem key_rr (a b : Str) : decide ((Sum.inr a : Key) = Sum.inr b) = decide (a = b) := by
  by_cases e : a = b
  · subst e; simp
  · have h : ¬ (Sum.inr a : Key) = Sum.inr b := fun q => e (Sum.inr.inj q)
    rw [decide_eq_false h, decide_eq_false e]
theorem key_lr (a : Int) (b : Str) : decide ((Sum.inl a : Key) = Sum.inr b) = false := decide_eq_false (fun q => nomatch q)
theorem key_rl (a : Str) (b : Int) : decide ((Sum.inr a : Key) = Sum.inl b) = false := decide_eq_false (fun q => nomatch q)

noncomputable def mixKind (prog : Program) (w : World) : PySem.KeyKind prog w Key where
  is := keyIs
  hash := keyH w
  inj := fun v a b ha hb => by
    rcases keyIs_shape ha with ⟨i, t, rfl, rfl⟩ | ⟨x, t, rfl, rfl⟩
    · rcases keyIs_shape hb with ⟨j, u, rfl, e⟩ | ⟨y, u, rfl, e⟩
      · injection e with e1 _; rw [e1]
      · exact nomatch e
    · rcases keyIs_shape hb with ⟨j, u, rfl, e⟩ | ⟨y, u, rfl, e⟩
      · exact nomatch e
      · injection e with e1 _; rw [e1]
  byValue := fun k v h => by
    rcases keyIs_shape h with ⟨i, t, rfl, rfl⟩ | ⟨x, t, rfl, rfl⟩ <;> rfl
  pyHash := fun hv h => by
    rcases keyIs_shape hv with ⟨i, t, rfl, rfl⟩ | ⟨x, t, rfl, rfl⟩
    · exact wpAny_pyHash_int h
    · exact wpAny_pyHash_str h
  eqBool := fun hu hv h => by
    rcases keyIs_shape hu with ⟨i, t, rfl, rfl⟩ | ⟨x, t, rfl, rfl⟩
    · rcases keyIs_shape hv with ⟨j, u, rfl, rfl⟩ | ⟨y, u, rfl, rfl⟩
      · rw [key_ll] at h; exact wpAny_eqBool_int h
      · rw [key_lr] at h; exact SeqAt.EqAt.int_str i t y u _ _ _ _ h
    · rcases keyIs_shape hv with ⟨j, u, rfl, rfl⟩ | ⟨y, u, rfl, rfl⟩
      · rw [key_rl] at h; exact SeqAt.EqAt.str_int x t j u _ _ _ _ h
      · rw [key_rr] at h; exact wpAny_eqBool_str h
  «strs» := fun k x t v h => by
    rcases keyIs_shape h with ⟨i, u, rfl, e⟩ | ⟨y, u, rfl, e⟩
    · exact nomatch e
    · injection e with e1 _
      subst e1
      cases v <;> rfl

end L2

namespace L2
open PySem PySem.Spec PyProof.Rows

/-- a value, without the heap -/
inductive V where
  | non | bl (b : Bool) | int (i : Int) | str (x : Str) | byt (b : Array UInt8) | flt (b : UInt64) | ref (a : Addr) | ty (n : String)
  deriving DecidableEq

noncomputable def RelV : V → Value → Prop
  | .non, u => u = Value.none
  | .bl b, u => u = Value.bool b
  | .int i, u => ∃ t, u = Value.int i t
  | .str x, u => ∃ t, u = Value.str x t
  | .byt b, u => ∃ t, u = Value.bytes b t
  | .flt b, u => ∃ t, u = Value.float b t
  | .ref a, u => u = Value.ref a
  | .ty n, u => u = Value.type n

noncomputable abbrev Vals : List V → List Value → Prop := Paired RelV
theorem Vals.length {xs : List V} {us : List Value} (r : Vals xs us) : xs.length = us.length := Paired.length r
theorem Vals.get : ∀ {xs : List V} {us : List Value} {i : Nat} {x : V}, Vals xs us → xs[i]? = some x → ∃ u, us[i]? = some u ∧ RelV x u
  | _, _, _, _, .nil, e => by simp at e
  | _, _, 0, _, .cons r _, e => by simp at e; subst e; exact ⟨_, rfl, r⟩
  | _, _, i + 1, x, .cons _ t, e => by
    obtain ⟨u, h1, h2⟩ := Vals.get (i := i) (x := x) t (by simpa using e)
    exact ⟨u, by simpa using h1, h2⟩
theorem Vals.append : ∀ {xs ys : List V} {us ws : List Value}, Vals xs us → Vals ys ws → Vals (xs ++ ys) (us ++ ws)
  | _, _, _, _, .nil, s => s
  | _, _, _, _, .cons r t, s => .cons r (Vals.append t s)
theorem Vals.take : ∀ {xs : List V} {us : List Value} (n : Nat), Vals xs us → Vals (xs.take n) (us.take n)
  | _, _, 0, _ => .nil
  | _, _, _ + 1, .nil => .nil
  | _, _, n + 1, .cons r t => .cons r (Vals.take n t)
theorem Vals.drop : ∀ {xs : List V} {us : List Value} (n : Nat), Vals xs us → Vals (xs.drop n) (us.drop n)
  | _, _, 0, r => r
  | _, _, _ + 1, .nil => .nil
  | _, _, n + 1, .cons _ t => Vals.drop n t
noncomputable def RelO : Option V → Option Value → Prop
  | some v, some u => RelV v u
  | none, none => True
  | _, _ => False
noncomputable def KV {κ : Type} : List (κ × V) → List (κ × Value) → Prop := Paired fun (p : κ × V) (q : κ × Value) => p.1 = q.1 ∧ RelV p.2 q.2

/-- a key of a dict (00_mix): an int or a text -/
noncomputable def kV : Key → V
  | .inl i => .int i
  | .inr x => .str x

/-- what stands at a tracked address -/
inductive HO where
  /-- a list -/
  | lst (xs : List V)
  /-- a tuple (never changes) -/
  | tup (xs : List V)
  /-- a dict whose keys are ints and texts; one whose keys are tuples of ints and texts (the empty one is both) -/
  | dK (kvs : List (Key × V)) | dT (kvs : List (List Key × V))
  /-- a set of ints: its members, its size -/
  | set (S : Int → Bool) (n : Nat)
  /-- an instance of the class at C, its dict at dx, its attributes -/
  | ins (C dx : Addr) (fs : List (Str × V))
  /-- the dict of the instance at x -/
  | own (x : Addr)
  /-- the dict of an exception -/
  | xd (fs : List (Str × V))
  /-- a bound method, f of x -/
  | met (f x : Addr)
  /-- a range object lo, lo + 1, .. below hi -/
  | rng (lo hi : Int)
  /-- a thing that is known to the object (the script; a dict while a loop walks it): read, never written while it is so -/
  | frz (o : Obj) (u : HO)
  /-- a code object's table -/
  | tbl (ps : Array Value)
  /-- any other thing, by what is true of its one object (a def of one's own: SetO a S n := HO.ext fun h => ..) -/
  | ext (φ : Heap → Prop)

noncomputable abbrev Hp := Addr → Option HO
noncomputable def upd (H : Hp) (a : Addr) (o : HO) : Hp := fun b => if b = a then some o else H b
theorem upd_same {H : Hp} {a : Addr} {o : HO} : upd H a o a = some o := by unfold upd; rw [if_pos rfl]
theorem upd_ne {H : Hp} {a b : Addr} {o : HO} (h : b ≠ a) : upd H a o b = H b := by unfold upd; rw [if_neg h]
theorem ne_of_none {H : Hp} {a b : Addr} {o : HO} (h : H a = some o) (h' : H b = none) : a ≠ b := by
  intro e; subst e; rw [h] at h'; cases h'

section
variable (P : Program) (w : World)
noncomputable def ObjOk (H : Hp) (h : Heap) (a : Addr) : HO → Prop
  | .lst xs => xs.length ≤ sizeLine ∧ ∃ (its : List Value) (n : Nat), Vals xs its ∧ h.get? a = some { cls := .type "list", data := .seq its.toArray n }
  | .tup xs => xs.length ≤ sizeLine ∧ ∃ its : List Value, Vals xs its ∧ IsTup h a its.toArray
  | .dK kvs => kvs.length ≤ sizeLine ∧ (a == sysModules) = false ∧ ∃ vs, KV kvs vs ∧ h.DictOf (mixKind P w) a vs
  | .dT kvs => kvs.length ≤ sizeLine ∧ (a == sysModules) = false ∧ ∃ xs : List (List Key × Addr × Value),
      Paired (fun (p : List Key × V) (q : List Key × Addr × Value) => p.1 = q.1 ∧ H q.2.1 = some (.tup (p.1.map kV)) ∧ RelV p.2 q.2.2) kvs xs ∧
      ∃ o es ep, h.get? a = some o ∧ o.ExactDict ∧ o.data = .dict es ep ∧ es.toList = xs.map (entryOfKey (tupleKind (mixKind P w))) ∧ (xs.map (·.1)).Nodup
  | .set S n => h.SetOf (intKind P w) a S n
  | .ins C dx fs => H dx = some (.own a) ∧ fs.length ≤ 1000 ∧ dx ≠ a ∧ h.get? a = some (PySem.W.instObj C dx) ∧
      ∃ mA, h.Ns1 dx mA ∧ (∀ f, RelO (fs.lookup f) (mA f)) ∧ PySem.Within mA (fs.map (·.1))
  | .own _ => ∃ o, h.get? a = some o
  | .xd fs => ∃ mA, h.Ns1 a mA ∧ ∀ f, RelO (fs.lookup f) (mA f)
  | .rng lo hi => ∃ t u v, h.get? a = some { cls := .type "range", data := .fields #[.int lo t, .int hi u, .int 1 v] }
  | .frz o u => h.get? a = some o ∧ ObjOk H h a u
  | .tbl ps => h.get? a = some { cls := .none, data := .fields ps }
  | .met f x => h.get? a = some (PySem.W.methodObj (.ref f) (.ref x))
  | .ext φ => φ h ∧ (∃ o, h.get? a = some o) ∧ ∀ h1 h2 : Heap, φ h1 → (∀ o, h1.get? a = some o → h2.get? a = some o) → φ h2
/-- the abstract heap is held -/
noncomputable def HOk (H : Hp) (h : Heap) : Prop := ∀ a o, H a = some o → ObjOk P w H h a o
end

section
variable {P : Program} {w : World} {H H' : Hp} {h h' : Heap} {a : Addr} {o : HO}
theorem ObjOk.lt (x : ObjOk P w H h a o) : a < h.objs.size := by
  cases o with
  | lst xs => obtain ⟨_, _, _, _, e⟩ := x; exact Heap.lt_size e
  | tup xs => obtain ⟨_, _, _, p⟩ := x; exact p.lt
  | dK kvs => obtain ⟨_, _, _, _, o, _, _, e, _⟩ := x; exact Heap.lt_size e
  | dT kvs => obtain ⟨_, _, _, _, o, _, _, e, _⟩ := x; exact Heap.lt_size e
  | set S n => obtain ⟨o, _, _, _, e, _⟩ := x; exact Heap.lt_size e
  | ins C dx fs => obtain ⟨_, _, _, e, _⟩ := x; exact Heap.lt_size e
  | own y => obtain ⟨_, e⟩ := x; exact Heap.lt_size e
  | xd fs => obtain ⟨_, ⟨_, _, _, e, _⟩, _⟩ := x; exact Heap.lt_size e
  | rng lo hi => obtain ⟨_, _, _, e⟩ := x; exact Heap.lt_size e
  | frz ob u => obtain ⟨e, _⟩ := x; exact Heap.lt_size e
  | tbl ps => exact Heap.lt_size (show h.get? a = some _ from x)
  | met f y => exact Heap.lt_size (show h.get? a = some _ from x)
  | ext φ => obtain ⟨_, ⟨_, e⟩, _⟩ := x; exact Heap.lt_size e
theorem Paired.mapP {α β : Type} {F G : α → β → Prop} : ∀ {l₁ : List α} {l₂ : List β}, Paired F l₁ l₂ → (∀ a b, F a b → G a b) → Paired G l₁ l₂
  | _, _, .nil, _ => .nil
  | _, _, .cons r t, f => .cons (f _ _ r) (Paired.mapP t f)
/-- what an object's description leans on: its own object, its own dict, the tuples -/
theorem ObjOk.stay (x : ObjOk P w H h a o) (k : ∀ b u, (b = a ∨ H b = some (.own a)) → h.get? b = some u → h'.get? b = some u)
    (ho : ∀ b, H b = some (.own a) → H' b = some (.own a)) (ht : ∀ b xs, H b = some (.tup xs) → H' b = some (.tup xs)) : ObjOk P w H' h' a o := by
  induction o with
  | lst xs => obtain ⟨z, its, n, r, e⟩ := x; exact ⟨z, its, n, r, k _ _ (.inl rfl) e⟩
  | tup xs => obtain ⟨z, its, r, ob, e, c⟩ := x; exact ⟨z, its, r, ob, k _ _ (.inl rfl) e, c⟩
  | dK kvs => obtain ⟨z, y, vs, r, ob, es, ep, e, c⟩ := x; exact ⟨z, y, vs, r, ob, es, ep, k _ _ (.inl rfl) e, c⟩
  | dT kvs =>
    obtain ⟨z, y, xs, r, ob, es, ep, e, c⟩ := x
    exact ⟨z, y, xs, Paired.mapP r fun p q z => ⟨z.1, ht _ _ z.2.1, z.2.2⟩, ob, es, ep, k _ _ (.inl rfl) e, c⟩
  | set S n => obtain ⟨ob, es, ep, t, e, c⟩ := x; exact ⟨ob, es, ep, t, k _ _ (.inl rfl) e, c⟩
  | ins C dx fs =>
    obtain ⟨d, z, ne, e, mA, ⟨od, es, ep, e2, c⟩, r⟩ := x
    exact ⟨ho _ d, z, ne, k _ _ (.inl rfl) e, mA, ⟨od, es, ep, k _ _ (.inr d) e2, c⟩, r⟩
  | own y => obtain ⟨ob, e⟩ := x; exact ⟨ob, k _ _ (.inl rfl) e⟩
  | xd fs => obtain ⟨mA, ⟨od, es, ep, e, c⟩, r⟩ := x; exact ⟨mA, ⟨od, es, ep, k _ _ (.inl rfl) e, c⟩, r⟩
  | rng lo hi => obtain ⟨t, u, v, e⟩ := x; exact ⟨t, u, v, k _ _ (.inl rfl) e⟩
  | frz ob u ih => obtain ⟨e, q⟩ := x; exact ⟨k _ _ (.inl rfl) e, ih q⟩
  | tbl ps =>
    have e : h.get? a = some { cls := .none, data := .fields ps } := x
    show h'.get? a = some { cls := .none, data := .fields ps }
    exact k a _ (.inl rfl) e
  | met f y =>
    have e : h.get? a = some (PySem.W.methodObj (.ref f) (.ref y)) := x
    show h'.get? a = some (PySem.W.methodObj (.ref f) (.ref y))
    exact k a _ (.inl rfl) e
  | ext φ => obtain ⟨p, ⟨o, e⟩, st⟩ := x; exact ⟨st _ _ p fun o q => k _ _ (.inl rfl) q, ⟨o, k _ _ (.inl rfl) e⟩, st⟩
theorem HOk.lt (x : HOk P w H h) (e : H a = some o) : a < h.objs.size := (x a o e).lt
theorem HOk.fresh (x : HOk P w H h) (e : h.objs.size ≤ a) : H a = none := by
  cases q : H a with
  | none => rfl
  | some u => exact absurd (Nat.lt_of_lt_of_le (x.lt q) e) (Nat.lt_irrefl _)
/-- every object of the heap is kept -/
theorem HOk.kept (x : HOk P w H h) (k : ∀ b u, h.get? b = some u → h'.get? b = some u) : HOk P w H h' := fun a o e =>
  (x a o e).stay (fun b u _ q => k b u q) (fun _ q => q) fun _ _ q => q
/-- a new object is laid and tracked -/
theorem HOk.laid (x : HOk P w H h) (k : ∀ b u, h.get? b = some u → h'.get? b = some u) (hp : h.objs.size ≤ a) (new : ObjOk P w (upd H a o) h' a o) : HOk P w (upd H a o) h' := fun b u e => by
  have hn := x.fresh hp
  by_cases hb : b = a
  · subst hb; rw [upd_same] at e; cases e; exact new
  · rw [upd_ne hb] at e
    exact (x b u e).stay (fun c v _ q => k c v q) (fun c q => by rw [upd_ne (ne_of_none q hn)]; exact q) fun c xs q => by rw [upd_ne (ne_of_none q hn)]; exact q
end

/-- what may be read as u: it is u, or a known u -/
noncomputable def Rd (H : Hp) (a : Addr) (u : HO) : Prop := H a = some u ∨ ∃ o, H a = some (.frz o u)
theorem Rd.of {H : Hp} {a : Addr} {u : HO} (h : H a = some u) : Rd H a u := .inl h
theorem Rd.ok {P : Program} {w : World} {H : Hp} {h : Heap} {a : Addr} {u : HO} (r : Rd H a u) (x : HOk P w H h) : ObjOk P w H h a u := by
  rcases r with r | ⟨o, r⟩
  · exact x a u r
  · obtain ⟨_, q⟩ := x a _ r
    exact q
/-- what may be written -/
noncomputable def Mut : Option HO → Prop
  | some (.lst _) => True
  | some (.dK _) => True
  | some (.dT _) => True
  | some (.set _ _) => True
  | some (.ins _ _ _) => True
  | some (.ext _) => True
  | _ => False
section
variable {P : Program} {w : World} {H : Hp} {h h' : Heap} {x e : Addr} {o' : HO}
/-- the object at e is changed: x itself, or the dict of the instance x -/
theorem HOk.write (ok : HOk P w H h) (mu : Mut (H x)) (he : e = x ∨ H e = some (.own x)) (k : ∀ b u, b ≠ e → h.get? b = some u → h'.get? b = some u) (heo : ∃ u, h'.get? e = some u)
    (new : ObjOk P w (upd H x o') h' x o') : HOk P w (upd H x o') h' := fun b u q => by
  have nown : ∀ c y, H c = some (.own y) → c ≠ x := fun c y r z => by subst z; rw [r] at mu; exact mu
  have ntup : ∀ c xs, H c = some (.tup xs) → c ≠ x := fun c xs r z => by subst z; rw [r] at mu; exact mu
  by_cases hb : b = x
  · subst hb; rw [upd_same] at q; cases q; exact new
  · rw [upd_ne hb] at q
    by_cases hbe : b = e
    · have q' : H b = some (.own x) := by
        rcases he with z | z
        · exact absurd (hbe.trans z) hb
        · rw [hbe]; exact z
      rw [q] at q'; cases q'
      obtain ⟨v, hv⟩ := heo
      exact ⟨v, by rw [hbe]; exact hv⟩
    · refine (ok b u q).stay (fun c v hc r => k c v ?_ r) (fun c r => by rw [upd_ne (nown c b r)]; exact r) fun c xs r => by rw [upd_ne (ntup c xs r)]; exact r
      rcases hc with rfl | hc
      · exact hbe
      · rintro rfl
        rcases he with z | z
        · exact nown c b hc z
        · rw [hc] at z; cases z; exact hb rfl
end

/-! ### kept unless tracked; of the frames at fs (the callers') the slots may change (an exception that passes writes there); of the records at ex (iterators) nothing is said -/
structure Un (fs ex : List Addr) (H H' : Hp) (h h' : Heap) : Prop where
  keep : ∀ b o, h.get? b = some o → H b = none → b ∉ fs → b ∉ ex → h'.get? b = some o
  slot : ∀ b o, h.get? b = some o → H b = none → b ∈ fs → b ∉ ex → ∃ sl, h'.get? b = some { o with slots := sl }
  free : ∀ b o, h.get? b = some o → H b = none → b ∉ ex → H' b = none
  there : ∀ b o, h.get? b = some o → b ∉ ex → ∃ o', h'.get? b = some o'
  tups : ∀ b xs, H b = some (.tup xs) → H' b = some (.tup xs)
  frzs : ∀ b o u, H b = some (.frz o u) → H' b = some (.frz o u)
  tbls : ∀ b ps, H b = some (.tbl ps) → ∃ more, H' b = some (.tbl (ps ++ more))
section
variable {fs fs' ex ex' : List Addr} {H H1 H2 : Hp} {h h1 h2 h' : Heap} {a x e : Addr} {o : HO}
theorem Un.any (u : Un fs ex H H1 h h1) {b : Addr} {ob : Obj} (q : h.get? b = some ob) (n : H b = none) (hx : b ∉ ex) : ∃ sl, h1.get? b = some { ob with slots := sl } := by
  by_cases hb : b ∈ fs
  · exact u.slot b ob q n hb hx
  · exact ⟨ob.slots, u.keep b ob q n hb hx⟩
theorem Un.kept (k : ∀ b u, h.get? b = some u → h'.get? b = some u) : Un fs ex H H h h' :=
  ⟨fun b ob q _ _ _ => k b ob q, fun b ob q _ _ _ => ⟨ob.slots, k b ob q⟩, fun _ _ _ n _ => n, fun b ob q _ => ⟨ob, k b ob q⟩, fun _ _ q => q, fun _ _ _ q => q, fun _ ps q => ⟨#[], by rw [q]; simp⟩⟩
theorem Un.refl : Un fs ex H H h h := Un.kept fun _ _ q => q
theorem Un.laid (k : ∀ b u, h.get? b = some u → h'.get? b = some u) (hp : h.objs.size ≤ a) (hn : H a = none) : Un fs ex H (upd H a o) h h' where
  keep := fun b u q _ _ _ => k b u q
  slot := fun b u q _ _ _ => ⟨u.slots, k b u q⟩
  free := fun b u q n _ => by rw [upd_ne (Nat.ne_of_lt (Nat.lt_of_lt_of_le (Heap.lt_size q) hp))]; exact n
  there := fun b u q _ => ⟨u, k b u q⟩
  tups := fun b xs q => by rw [upd_ne (ne_of_none q hn)]; exact q
  frzs := fun b u xs q => by rw [upd_ne (ne_of_none q hn)]; exact q
  tbls := fun b ps q => ⟨#[], by rw [upd_ne (ne_of_none q hn), q]; simp⟩
theorem Un.write (mu : Mut (H x)) (he : e = x ∨ H e = some (.own x)) (k : ∀ b u, b ≠ e → h.get? b = some u → h'.get? b = some u) (heo : ∃ u, h'.get? e = some u) : Un fs ex H (upd H x o) h h' := by
  have hx : ∀ b, H b = none → b ≠ x := fun b n z => by subst z; rw [n] at mu; exact mu
  have hb : ∀ b, H b = none → b ≠ e := fun b n z => by
    subst z
    rcases he with r | r
    · exact hx b n r
    · rw [n] at r; cases r
  have hm : ∀ b u, H b = some u → ¬ Mut (some u) → b ≠ x := fun b u q nm z => by subst z; rw [q] at mu; exact nm mu
  refine ⟨fun b u q n _ _ => k b u (hb b n) q, fun b u q n _ _ => ⟨u.slots, k b u (hb b n) q⟩, fun b u q n _ => by rw [upd_ne (hx b n)]; exact n, fun b u q _ => ?_,
    fun b xs q => by rw [upd_ne (hm b _ q fun z => z)]; exact q, fun b u xs q => by rw [upd_ne (hm b _ q fun z => z)]; exact q, fun b ps q => ⟨#[], by rw [upd_ne (hm b _ q fun z => z), q]; simp⟩⟩
  by_cases hbe : b = e
  · subst hbe; exact heo
  · exact ⟨u, k b u hbe q⟩
end

/-! ### the heap without what is tracked -/
noncomputable def trk (h : Heap) (H : Hp) : List Addr := (List.range h.objs.size).filter fun a => (H a).isSome
noncomputable def hidT (h : Heap) (H : Hp) : Heap := PySem.W.hideAll h (trk h H)
theorem hidT_size (h : Heap) (H : Hp) : (hidT h H).objs.size = h.objs.size := PySem.W.hideAll_size _ _
theorem hidT_get {h : Heap} {H : Hp} {b : Addr} {o : Obj} (e : h.get? b = some o) (n : H b = none) : (hidT h H).get? b = some o :=
  PySem.W.hideAll_get _ e fun hm => by
    have q : (H b).isSome = true := (List.mem_filter.mp hm).2
    rw [n] at q; simp at q
theorem of_hidT {h : Heap} {H : Hp} {b : Addr} {o : Obj} (e : (hidT h H).get? b = some o) : h.get? b = some o ∧ H b = none := by
  have e' : h.get? b = some o := PySem.W.of_hideAll (trk h H) e
  refine ⟨e', ?_⟩
  cases q : H b with
  | none => rfl
  | some x =>
    have hm : b ∈ trk h H := List.mem_filter.mpr ⟨List.mem_range.mpr (Heap.lt_size e'), by simp [q]⟩
    have z : (hidT h H).get? b = none := PySem.W.hideAll_none (trk h H) hm
    rw [z] at e; cases e

/-! ### OpenK's ledger, filled with every new object but one -/
noncomputable def allNews (g h : Heap) (L : Addr) : List (Addr × Obj) := (List.range h.objs.size).filterMap fun a => if a = L ∨ (g.get? a).isSome = true then none else (h.get? a).map fun o => (a, o)
noncomputable def rest (g h : Heap) (L d : Addr) : List (Addr × Obj) := (allNews g h L).filter fun p => decide (p.1 ≠ d)
end L2

namespace L2
open PySem PySem.Spec PyProof.Rows

/-- the module's facts, over the base: the heap at the law's entry without what is tracked there -/
structure Mod (K : PySem.W.Frag) (mg : Str → Option Value) (base : Heap) : Prop where
  kin : K.In base
  glob : base.Ns mainGlobals mg
  blt : ∃ mb, base.Ns builtinsNs mb ∧ ∀ x : Str, x ≠ "__name__" → mb x = bootBuiltins x
  nolimit : base.NoLimit

/-- the context: a def's body (or a comprehension's block) running. base: fixed through the whole law; s₀, H₀: the entry; outer: the frames whose slots others may change (a def's callers); stack: all frames that run;
   ex: iterators that were made ahead of the entry and are walked here (a comprehension's); fn: the names whose cells were made at the entry (a def: all; a comprehension's block: its own); calm: not within an except suite; pn: pins that every state bears; xe: what is wanted of an exception that leaves the code -/
structure Cx where
  prog : Program
  w : World
  K : PySem.W.Frag
  mg : Str → Option Value
  base : Heap
  A : Around
  N : List Str
  s₀ : Shared
  H₀ : Hp
  env : Env
  outer : List Env
  stack : List Env
  ex : List Addr
  fn : Str → Bool
  calm : Bool
  pn : List (Addr × Obj)
  xe : Value → Shared → Prop
/-- the callers' frames -/
noncomputable def frs (l : List Env) : List Addr := l.filterMap (·.frame)
noncomputable abbrev Cx.fs (X : Cx) : List Addr := frs X.outer

noncomputable def Vis (sc : Scope) (x : Str) : Prop := sc.names.lookup x = some .local ∨ sc.names.lookup x = some .cell ∨ sc.names.lookup x = some .free
noncomputable def Loc (sc : Scope) (x : Str) : Prop := sc.names.lookup x = some .local ∨ sc.names.lookup x = some .cell
noncomputable def Look (env : Env) (h : Heap) (m : Str → Option Value) (x : Str) (u : Value) : Prop :=
  (env.kindOf x = some .local ∧ m x = some u) ∨ ((env.kindOf x = some .cell ∨ env.kindOf x = some .free) ∧ ∃ c, env.cells.lookup x = some c ∧ h.IsCell c (some u))

structure Cx.Ok (X : Cx) : Prop where
  mod : Mod X.K X.mg X.base
  kind : X.env.scope.kind = .function
  glob : X.env.globals = mainGlobals
  blt : X.env.builtins = builtinsNs
  above : X.s₀.heap.objs.size ≤ X.env.locals
  inj : ∀ x y c, X.env.cells.lookup x = some c → X.env.cells.lookup y = some c → x = y
  has : ∀ x, (X.env.kindOf x = some .cell ∨ X.env.kindOf x = some .free) → ∃ c, X.env.cells.lookup x = some c
  cab : ∀ x c, X.fn x = true → X.env.cells.lookup x = some c → X.s₀.heap.objs.size ≤ c
  hd : X.calm = true → X.A.handled = none
  frames : X.A.frames = some X.stack
  stk : X.stack = X.outer ∨ (X.stack = X.env :: X.outer ∧ X.env.frame = some X.env.locals)
  exf : ∀ b ∈ X.ex, b ≠ X.env.locals ∧ ∀ x c, X.env.cells.lookup x = some c → c ≠ b
  bs : ∀ b o, X.base.get? b = some o → X.s₀.heap.get? b = some o ∧ X.H₀ b = none
  bsz : X.base.objs.size ≤ X.s₀.heap.objs.size
  noex : ∀ b o, X.base.get? b = some o → b ∉ X.ex
  exfs : ∀ b ∈ X.ex, b ∉ X.fs
  funs : X.s₀.heap.FunFrames X.base X.outer
  frf : ∀ b ∈ X.fs, X.H₀ b = none

structure Inv (X : Cx) (pins : List (Addr × Obj)) (σ : List (Option V)) (H : Hp) (s : Shared) : Prop where
  ok : X.Ok
  os : s.os = X.s₀.os
  bare : AllBare s.gens
  base : Un X.fs X.ex X.H₀ H X.s₀.heap s.heap
  loc : ∃ m, s.heap.Ns X.env.locals m ∧ ∀ (i : Nat) (x : Str) (v : V), X.N[i]? = some x → σ[i]? = some (some v) → Vis X.env.scope x → ∃ u, RelV v u ∧ Look X.env s.heap m x u
  cell : ∀ x c, X.env.cells.lookup x = some c → ∃ v, s.heap.IsCell c v
  free : H X.env.locals = none
  freeC : ∀ x c, X.env.cells.lookup x = some c → H c = none
  pin : ∀ p ∈ X.pn ++ pins, s.heap.get? p.1 = some p.2 ∧ H p.1 = none ∧ p.1 ≠ X.env.locals ∧ p.1 ∉ X.fs ∧ ∀ v, p.2.data ≠ .cell v
  hok : HOk X.prog X.w H s.heap
  len : σ.length = X.N.length

section
variable {X : Cx} {pins : List (Addr × Obj)} {σ : List (Option V)} {H H' : Hp} {s : Shared} {h' : Heap}

theorem Cx.Ok.nofr (ok : X.Ok) {b : Addr} {o : Obj} (e : X.base.get? b = some o) : b ∉ X.fs := fun hb => by
  have := (ok.funs.mem hb).1
  rw [e] at this; cases this
theorem Inv.bs (I : Inv X pins σ H s) : ∀ b o, X.base.get? b = some o → s.heap.get? b = some o ∧ H b = none := fun b o e =>
  ⟨I.base.keep b o (I.ok.bs b o e).1 (I.ok.bs b o e).2 (I.ok.nofr e) (I.ok.noex b o e), I.base.free b o (I.ok.bs b o e).1 (I.ok.bs b o e).2 (I.ok.noex b o e)⟩
theorem Inv.bk (I : Inv X pins σ H s) : ∀ b o, X.base.get? b = some o → s.heap.get? b = some o := fun b o e => (I.bs b o e).1
theorem Inv.mod (I : Inv X pins σ H s) : Mod X.K X.mg X.base := I.ok.mod
theorem Inv.kIn (I : Inv X pins σ H s) : X.K.In s.heap := I.ok.mod.kin.keeps I.bk
theorem Inv.nolimit (I : Inv X pins σ H s) : s.heap.NoLimit := I.ok.mod.nolimit.keeps I.bk
/-- the frame over the base: for OpenK's rules (K.In X.base is I.mod.kin) -/
theorem Inv.fr (I : Inv X pins σ H s) : ∃ m, Fr X.base X.env.locals s.heap m :=
  let ⟨m, hn, _⟩ := I.loc
  ⟨m, hn, I.bk, Nat.le_trans I.ok.bsz I.ok.above⟩
theorem Inv.lt (I : Inv X pins σ H s) : X.env.locals < s.heap.objs.size := let ⟨_, hn, _⟩ := I.loc; hn.lt
theorem Inv.sz (I : Inv X pins σ H s) : X.s₀.heap.objs.size ≤ s.heap.objs.size := Nat.le_trans I.ok.above (Nat.le_of_lt I.lt)
theorem Inv.nofs (I : Inv X pins σ H s) {a : Addr} (h : s.heap.objs.size ≤ a) : a ∉ X.fs := fun hb => by
  obtain ⟨_, o, ho, _⟩ := I.ok.funs.mem hb
  exact absurd (Nat.lt_of_lt_of_le (Heap.lt_size ho) (Nat.le_trans I.sz h)) (Nat.lt_irrefl _)
theorem Inv.cne (I : Inv X pins σ H s) : ∀ x c, X.env.cells.lookup x = some c → c ≠ X.env.locals := fun x c e z => by
  obtain ⟨v, o, ho, hd⟩ := I.cell x c e
  obtain ⟨m, ⟨o', es, ep, ho', hd', _⟩, _⟩ := I.loc
  rw [z, ho'] at ho; cases ho; rw [hd'] at hd; cases hd
theorem Inv.funs (I : Inv X pins σ H s) : s.heap.FunFrames X.base X.outer := by
  have all : ∀ (l : List Env), (∀ b ∈ frs l, b ∈ X.fs) → X.s₀.heap.FunFrames X.base l → s.heap.FunFrames X.base l := by
    intro l
    induction l with
    | nil => intro _ _; trivial
    | cons env r ih =>
      intro hs hl
      obtain ⟨hk, ⟨L, o, hf, hn, ho, hd⟩, hr⟩ := hl
      have hL : L ∈ X.fs := hs L (by unfold frs; rw [List.filterMap_cons, hf]; exact List.mem_cons_self)
      obtain ⟨sl, e⟩ := I.base.slot L o ho (I.ok.frf L hL) hL fun z => I.ok.exfs L z hL
      exact ⟨hk, ⟨L, _, hf, hn, e, hd⟩, ih (fun b hb => hs b (by unfold frs; rw [List.filterMap_cons, hf]; exact List.mem_cons_of_mem _ hb)) hr⟩
  exact all X.outer (fun _ hb => hb) I.ok.funs

/-- the frames that run, for a call -/
theorem Inv.stack (I : Inv X pins σ H s) : s.heap.FunFrames X.base X.stack := by
  rcases I.ok.stk with e | ⟨e, hf⟩
  · rw [e]; exact I.funs
  · rw [e]
    obtain ⟨m, hn, _⟩ := I.loc
    refine .cons (by rw [I.ok.kind]; decide) hf hn ?_ I.funs
    exact Heap.get?_none_of_le (Nat.le_trans I.ok.bsz I.ok.above)
theorem Inv.stkSub (I : Inv X pins σ H s) : ∀ b ∈ frs X.stack, b ∈ X.env.locals :: X.fs := fun b hb => by
  rcases I.ok.stk with e | ⟨e, hf⟩
  · rw [e] at hb; exact List.mem_cons_of_mem _ hb
  · rw [e] at hb
    unfold frs at hb
    rw [List.filterMap_cons, hf] at hb
    exact hb
theorem Inv.stkFree (I : Inv X pins σ H s) : ∀ b ∈ frs X.stack, H b = none := fun b hb => by
  rcases List.mem_cons.mp (I.stkSub b hb) with e | hb
  · rw [e]; exact I.free
  · obtain ⟨_, o, ho, _⟩ := I.ok.funs.mem hb
    exact I.base.free b o ho (I.ok.frf b hb) fun z => I.ok.exfs b z hb

/-- THE STEP: the untracked objects but the frame and the records at ch are kept (the callers' frames up to slots), the frame's map is kept, the new abstract heap is held -/
theorem Inv.step {g' : Array GenState} {t' : Nat} {d' : Drawn} {ch : List Addr} (I : Inv X pins σ H s)
    (hch : ∀ b ∈ ch, (b ∈ X.ex ∨ X.s₀.heap.objs.size ≤ b) ∧ b ≠ X.env.locals ∧ (∀ x c, X.env.cells.lookup x = some c → c ≠ b) ∧ ∀ p ∈ X.pn ++ pins, p.1 ≠ b)
    (keep : ∀ b o, b ≠ X.env.locals → b ∉ X.fs → b ∉ ch → s.heap.get? b = some o → H b = none → h'.get? b = some o)
    (slot : ∀ b o, b ≠ X.env.locals → b ∈ X.fs → b ∉ ch → s.heap.get? b = some o → H b = none → ∃ sl, h'.get? b = some { o with slots := sl }) (free : ∀ b o, b ∉ ch → s.heap.get? b = some o → H b = none → H' b = none)
    (there : ∀ b o, b ∉ ch → s.heap.get? b = some o → ∃ o', h'.get? b = some o')
    (tups : ∀ b xs, H b = some (.tup xs) → H' b = some (.tup xs)) (frzs : ∀ b o u, H b = some (.frz o u) → H' b = some (.frz o u)) (tbls : ∀ b ps, H b = some (.tbl ps) → ∃ more, H' b = some (.tbl (ps ++ more)))
    (ns : ∀ m, s.heap.Ns X.env.locals m → h'.Ns X.env.locals m) (hok : HOk X.prog X.w H' h') (hg : AllBare g') :
    Inv X pins σ H' { s with heap := h', gens := g', drawn := d', toks := t' } := by
  have neL : ∀ b o, X.s₀.heap.get? b = some o → b ≠ X.env.locals := fun b o e => Nat.ne_of_lt (Nat.lt_of_lt_of_le (Heap.lt_size e) I.ok.above)
  have neC : ∀ b o, X.s₀.heap.get? b = some o → b ∉ X.ex → b ∉ ch := fun b o e hx hb => by
    rcases (hch b hb).1 with z | z
    · exact hx z
    · exact absurd (Nat.lt_of_lt_of_le (Heap.lt_size e) z) (Nat.lt_irrefl _)
  have cellK : ∀ x c, X.env.cells.lookup x = some c → ∀ v, s.heap.IsCell c v → h'.IsCell c v := fun x c e v ⟨o, ho, hd⟩ => by
    have nch : c ∉ ch := fun z => (hch c z).2.2.1 x c e rfl
    by_cases hc : c ∈ X.fs
    · obtain ⟨sl, q⟩ := slot c o (I.cne x c e) hc nch ho (I.freeC x c e)
      exact ⟨_, q, hd⟩
    · exact ⟨o, keep c o (I.cne x c e) hc nch ho (I.freeC x c e), hd⟩
  refine ⟨I.ok, I.os, hg, ⟨fun b o e n hb hx => ?_, fun b o e n hb hx => ?_, fun b o e n hx => ?_, fun b o e hx => ?_, fun b xs e => tups b xs (I.base.tups b xs e), fun b o xs e => frzs b o xs (I.base.frzs b o xs e), fun b ps e => ?_⟩, ?_, fun x c e => ?_, ?_, fun x c e => ?_, fun p hp => ?_, hok, I.len⟩
  · exact keep b o (neL b o e) hb (neC b o e hx) (I.base.keep b o e n hb hx) (I.base.free b o e n hx)
  · obtain ⟨sl, e1⟩ := I.base.slot b o e n hb hx
    obtain ⟨sl', e2⟩ := slot b _ (neL b o e) hb (neC b o e hx) e1 (I.base.free b o e n hx)
    exact ⟨sl', e2⟩
  · obtain ⟨o', e1⟩ := I.base.there b o e hx
    exact free b o' (neC b o e hx) e1 (I.base.free b o e n hx)
  · obtain ⟨o', e1⟩ := I.base.there b o e hx
    exact there b o' (neC b o e hx) e1
  · obtain ⟨m1, e1⟩ := I.base.tbls b ps e
    obtain ⟨m2, e2⟩ := tbls b _ e1
    exact ⟨m1 ++ m2, by rw [e2, Array.append_assoc]⟩
  · obtain ⟨m, hn, hl⟩ := I.loc
    refine ⟨m, ns m hn, fun i x v e1 e2 e3 => ?_⟩
    obtain ⟨u, r, l⟩ := hl i x v e1 e2 e3
    refine ⟨u, r, ?_⟩
    rcases l with l | ⟨k, c, e, z⟩
    · exact .inl l
    · exact .inr ⟨k, c, e, cellK x c e _ z⟩
  · obtain ⟨v, z⟩ := I.cell x c e
    exact ⟨v, cellK x c e v z⟩
  · obtain ⟨m, ⟨o, _, _, ho, _⟩, _⟩ := I.loc
    exact free _ o (fun z => (hch _ z).2.1 rfl) ho I.free
  · obtain ⟨v, o, ho, hd⟩ := I.cell x c e
    exact free c o (fun z => (hch c z).2.2.1 x c e rfl) ho (I.freeC x c e)
  · obtain ⟨e, n, ne, nf, d⟩ := I.pin p hp
    have nch : p.1 ∉ ch := fun z => (hch p.1 z).2.2.2 p hp rfl
    exact ⟨keep p.1 p.2 ne nf nch e n, free p.1 p.2 nch e n, ne, nf, d⟩
/-- .. where the frame's own object is kept too -/
theorem Inv.un {t' : Nat} (I : Inv X pins σ H s) (u : Un X.fs [] H H' s.heap h') (hok : HOk X.prog X.w H' h') : Inv X pins σ H' { s with heap := h', toks := t' } := by
  obtain ⟨m, ⟨o, es, ep, ho, r⟩, _⟩ := id I.loc
  obtain ⟨sl, hL⟩ := u.any ho I.free (by simp)
  exact I.step (g' := s.gens) (d' := s.drawn) (ch := []) (fun _ z => nomatch z) (fun b o _ hb _ e n => u.keep b o e n hb (by simp)) (fun b o _ hb _ e n => u.slot b o e n hb (by simp)) (fun b o _ e n => u.free b o e n (by simp)) (fun b o _ e => u.there b o e (by simp)) u.tups u.frzs u.tbls (fun m' hm => by
    obtain ⟨o', es', ep', ho', r'⟩ := hm
    rw [ho] at ho'; cases ho'
    exact ⟨_, es', ep', hL, r'⟩) hok I.bare
/-- behind a call (or a comprehension's block): the slots of this frame may have changed too, the records at ch may have turned -/
theorem Inv.call {g' : Array GenState} {t' : Nat} {d' : Drawn} {ch : List Addr} (I : Inv X pins σ H s) (u : Un (frs X.stack) ch H H' s.heap h') (hok : HOk X.prog X.w H' h') (hg : AllBare g')
    (hch : ∀ b ∈ ch, (b ∈ X.ex ∨ X.s₀.heap.objs.size ≤ b) ∧ b ≠ X.env.locals ∧ (∀ x c, X.env.cells.lookup x = some c → c ≠ b) ∧ ∀ p ∈ X.pn ++ pins, p.1 ≠ b) :
    Inv X pins σ H' { s with heap := h', gens := g', drawn := d', toks := t' } := by
  obtain ⟨m, ⟨o, es, ep, ho, r⟩, _⟩ := id I.loc
  obtain ⟨sl, hL⟩ := u.any ho I.free fun z => (hch _ z).2.1 rfl
  exact I.step (ch := ch) hch (fun b o hL hb hc e n => u.keep b o e n (fun z => (List.mem_cons.mp (I.stkSub b z)).elim hL hb) hc) (fun b o _ _ hc e n => u.any e n hc) (fun b o hc e n => u.free b o e n hc) (fun b o hc e => u.there b o e hc) u.tups u.frzs u.tbls (fun m' hm => by
    obtain ⟨o', es', ep', ho', r'⟩ := hm
    rw [ho] at ho'; cases ho'
    exact ⟨_, es', ep', hL, r'⟩) hok hg
/-- an untracked record of ours (an iterator) has turned -/
theorem Inv.turned {t' : Nat} {it : Addr} (I : Inv X pins σ H s) (k : ∀ b o, b ≠ it → s.heap.get? b = some o → h'.get? b = some o) (hn : H it = none) (hL : it ≠ X.env.locals)
    (h1 : it ∈ X.ex ∨ X.s₀.heap.objs.size ≤ it) (h2 : ∀ x c, X.env.cells.lookup x = some c → c ≠ it) (h3 : ∀ p ∈ X.pn ++ pins, p.1 ≠ it) : Inv X pins σ H { s with heap := h', toks := t' } := by
  have nit : ∀ b u, H b = some u → b ≠ it := fun b u e z => by rw [z, hn] at e; cases e
  refine I.step (g' := s.gens) (d' := s.drawn) (ch := [it]) (fun b hb => ?_) (fun b o _ _ hc e _ => k b o (fun z => hc (by simp [z])) e) (fun b o _ _ hc e _ => ⟨o.slots, k b o (fun z => hc (by simp [z])) e⟩) (fun _ _ _ _ n => n)
    (fun b o hc e => ⟨o, k b o (fun z => hc (by simp [z])) e⟩) (fun _ _ e => e) (fun _ _ _ e => e) (fun b ps e => ⟨#[], by rw [e]; simp⟩) (fun m hm => ?_) (fun b u e => ?_) I.bare
  · have e : b = it := by simpa using hb
    subst e
    exact ⟨h1, hL, h2, h3⟩
  · obtain ⟨o, es, ep, ho, r⟩ := hm
    exact ⟨o, es, ep, k _ o (Ne.symm hL) ho, r⟩
  · refine (I.hok b u e).stay (fun c v hc q => k c v ?_ q) (fun _ q => q) fun _ _ q => q
    rcases hc with z | z
    · rw [z]; exact nit b u e
    · exact nit c _ z
theorem Inv.tok (I : Inv X pins σ H s) (t : Nat) : Inv X pins σ H { s with toks := t } := I.un (h' := s.heap) (t' := t) Un.refl I.hok
/-- all objects kept -/
theorem Inv.kept {t' : Nat} (I : Inv X pins σ H s) (k : ∀ b u, s.heap.get? b = some u → h'.get? b = some u) : Inv X pins σ H { s with heap := h', toks := t' } := I.un (Un.kept k) (I.hok.kept k)
/-- a new object laid and tracked -/
theorem Inv.laid {a : Addr} {o : HO} {t' : Nat} (I : Inv X pins σ H s) (k : ∀ b u, s.heap.get? b = some u → h'.get? b = some u) (hp : s.heap.objs.size ≤ a) (new : ObjOk X.prog X.w (upd H a o) h' a o) :
    Inv X pins σ (upd H a o) { s with heap := h', toks := t' } := I.un (Un.laid k hp (I.hok.fresh hp)) (I.hok.laid k hp new)
/-- an object written -/
theorem Inv.write {x e : Addr} {o : HO} {t' : Nat} (I : Inv X pins σ H s) (mu : Mut (H x)) (he : e = x ∨ H e = some (.own x)) (k : ∀ b u, b ≠ e → s.heap.get? b = some u → h'.get? b = some u) (heo : ∃ u, h'.get? e = some u)
    (new : ObjOk X.prog X.w (upd H x o) h' x o) : Inv X pins σ (upd H x o) { s with heap := h', toks := t' } := I.un (Un.write mu he k heo) (I.hok.write mu he k heo new)
/-- forgetting slots, pins -/
theorem Inv.weak {σ' : List (Option V)} (I : Inv X pins σ H s) (hl : σ'.length = σ.length) (w : ∀ (i : Nat) v, σ'[i]? = some (some v) → σ[i]? = some (some v)) : Inv X pins σ' H s :=
  ⟨I.ok, I.os, I.bare, I.base, let ⟨m, hn, hl'⟩ := I.loc; ⟨m, hn, fun i x v e1 e2 e3 => hl' i x v e1 (w i v e2) e3⟩, I.cell, I.free, I.freeC, I.pin, I.hok, hl.trans I.len⟩
theorem Inv.pins_of {pins' : List (Addr × Obj)} (I : Inv X pins σ H s) (h : ∀ p ∈ pins', s.heap.get? p.1 = some p.2 ∧ H p.1 = none ∧ p.1 ≠ X.env.locals ∧ p.1 ∉ X.fs ∧ ∀ v, p.2.data ≠ .cell v) : Inv X pins' σ H s :=
  ⟨I.ok, I.os, I.bare, I.base, I.loc, I.cell, I.free, I.freeC, fun p hp => (List.mem_append.mp hp).elim (fun z => I.pin p (List.mem_append_left _ z)) (h p), I.hok, I.len⟩

theorem nodup_ix {N : List Str} (hN : N.Nodup) {i j : Nat} {x : Str} (a : N[i]? = some x) (b : N[j]? = some x) : i = j := by
  obtain ⟨h1, e1⟩ := List.getElem?_eq_some_iff.mp a
  obtain ⟨h2, e2⟩ := List.getElem?_eq_some_iff.mp b
  exact (List.getElem_inj hN).mp (e1.trans e2.symm)

/-- a name is stored; what changed -/
theorem store_ok2 {M : Model} {A : Around} {E : Value → Shared → Prop} {i : Nat} {x : Str} {v : V} {u : Value} {Q : Unit → Shared → Prop} (I : Inv X pins σ H s) (hN : X.N.Nodup) (hi : X.N[i]? = some x) (hx : Loc X.env.scope x) (r : RelV v u)
    (h : ∀ s', Inv X pins (σ.set i (some v)) H s' → (∃ a, Heap.SameBut a s.heap s'.heap ∧ (a = X.env.locals ∨ X.env.cells.lookup x = some a)) → Q () s') (hf : X.fn x = true ∨ X.env.scope.names.lookup x = some .local := by first | exact .inl rfl | exact .inr rfl | assumption) : wpAny M A (storeName X.env x u) Q E s := by
  obtain ⟨m, hn, hl⟩ := id I.loc
  have hcls : (X.env.scope.kind == .class || (X.env.scope.kind == .module && X.env.locals != X.env.globals)) = false := by rw [I.ok.kind]; rfl
  have hiσ : i < σ.length := by rw [I.len]; exact (List.getElem?_eq_some_iff.mp hi).1
  have cne := I.cne
  have tracked : ∀ {a : Addr} {h' : Heap}, (∃ o, s.heap.get? a = some o ∧ H a = none) → Heap.SameBut a s.heap h' → HOk X.prog X.w H h' := fun {a h'} ha hs b ob e => by
    obtain ⟨_, _, hfree⟩ := ha
    refine (I.hok b ob e).stay (fun c w' hc q => (hs.2 c ?_).trans q) (fun _ q => q) fun _ _ q => q
    rintro rfl
    rcases hc with rfl | hc
    · rw [hfree] at e; cases e
    · rw [hfree] at hc; cases hc
  rcases hx with hk | hk
  · refine wpAny_storeName_local hk hn (fun h' hn' hs => ?_) hcls
    obtain ⟨oL, _, _, hoL, _⟩ := id hn
    refine h _ ⟨I.ok, I.os, I.bare, ⟨fun b o e n hb hx => ?_, fun b o e n hb hx => ?_, I.base.free, fun b o e hx => ?_, I.base.tups, I.base.frzs, I.base.tbls⟩, ⟨_, hn', fun j y v' e1 e2 e3 => ?_⟩, fun y c e => ?_, I.free, I.freeC, fun p hp => ?_, tracked ⟨oL, hoL, I.free⟩ hs, by simpa using I.len⟩ ⟨_, hs, .inl rfl⟩
    · exact (hs.2 b (Nat.ne_of_lt (Nat.lt_of_lt_of_le (Heap.lt_size e) I.ok.above))).trans (I.base.keep b o e n hb hx)
    · obtain ⟨sl, e1⟩ := I.base.slot b o e n hb hx
      exact ⟨sl, (hs.2 b (Nat.ne_of_lt (Nat.lt_of_lt_of_le (Heap.lt_size e) I.ok.above))).trans e1⟩
    · obtain ⟨o', e1⟩ := I.base.there b o e hx
      exact ⟨o', (hs.2 b (Nat.ne_of_lt (Nat.lt_of_lt_of_le (Heap.lt_size e) I.ok.above))).trans e1⟩
    · by_cases hj : j = i
      · subst hj
        rw [hi] at e1; cases e1
        rw [List.getElem?_set_self hiσ] at e2
        cases e2
        exact ⟨u, r, .inl ⟨hk, by simp⟩⟩
      · rw [List.getElem?_set_ne (Ne.symm hj)] at e2
        obtain ⟨u', r', q⟩ := hl j y v' e1 e2 e3
        refine ⟨u', r', ?_⟩
        rcases q with ⟨k, e⟩ | ⟨k, c, e, z⟩
        · refine .inl ⟨k, ?_⟩
          have : y ≠ x := fun e => hj (nodup_ix hN e1 (e ▸ hi))
          simp [this, e]
        · exact .inr ⟨k, c, e, z.sameBut hs (cne y c e)⟩
    · obtain ⟨w', z⟩ := I.cell y c e
      exact ⟨w', z.sameBut hs (cne y c e)⟩
    · obtain ⟨e, n, ne, nf, d⟩ := I.pin p hp
      exact ⟨(hs.2 p.1 ne).trans e, n, ne, nf, d⟩
  · have hfn : X.fn x = true := by
      rcases hf with z | z
      · exact z
      · rw [z] at hk; cases hk
    obtain ⟨c, hc⟩ := I.ok.has x (.inl hk)
    obtain ⟨w', z⟩ := I.cell x c hc
    refine wpAny_storeName_cell I.ok.kind hk hc z (fun h' hc' hs => ?_)
    obtain ⟨oc, hoc, hocd⟩ := id z
    refine h { s with heap := h' } ⟨I.ok, I.os, I.bare, ⟨fun b o e n hb hx => ?_, fun b o e n hb hx => ?_, I.base.free, fun b o e hx => ?_, I.base.tups, I.base.frzs, I.base.tbls⟩, ⟨m, hn.sameBut hs (Ne.symm (cne x c hc)), fun j y v' e1 e2 e3 => ?_⟩, fun y c' e => ?_, I.free, I.freeC, fun p hp => ?_, tracked ⟨oc, hoc, I.freeC x c hc⟩ hs, by simpa using I.len⟩ ⟨c, hs, .inr hc⟩
    · exact (hs.2 b (Nat.ne_of_lt (Nat.lt_of_lt_of_le (Heap.lt_size e) (I.ok.cab x c hfn hc)))).trans (I.base.keep b o e n hb hx)
    · obtain ⟨sl, e1⟩ := I.base.slot b o e n hb hx
      exact ⟨sl, (hs.2 b (Nat.ne_of_lt (Nat.lt_of_lt_of_le (Heap.lt_size e) (I.ok.cab x c hfn hc)))).trans e1⟩
    · obtain ⟨o', e1⟩ := I.base.there b o e hx
      exact ⟨o', (hs.2 b (Nat.ne_of_lt (Nat.lt_of_lt_of_le (Heap.lt_size e) (I.ok.cab x c hfn hc)))).trans e1⟩
    · by_cases hj : j = i
      · subst hj
        rw [hi] at e1; cases e1
        rw [List.getElem?_set_self hiσ] at e2
        cases e2
        exact ⟨u, r, .inr ⟨.inl hk, c, hc, hc'⟩⟩
      · rw [List.getElem?_set_ne (Ne.symm hj)] at e2
        obtain ⟨u', r', q⟩ := hl j y v' e1 e2 e3
        refine ⟨u', r', ?_⟩
        rcases q with q | ⟨k, c', e, z'⟩
        · exact .inl q
        · refine .inr ⟨k, c', e, z'.sameBut hs ?_⟩
          rintro rfl
          exact hj (nodup_ix hN e1 (I.ok.inj _ _ _ e hc ▸ hi))
    · by_cases hcc : c' = c
      · subst hcc; exact ⟨_, hc'⟩
      · obtain ⟨w2, z2⟩ := I.cell y c' e
        exact ⟨w2, z2.sameBut hs hcc⟩
    · obtain ⟨e, n, ne, nf, d⟩ := I.pin p hp
      refine ⟨(hs.2 p.1 ?_).trans e, n, ne, nf, d⟩
      intro q
      rw [q, hoc] at e
      have q' : oc = p.2 := Option.some.inj e
      exact d w' (by rw [← q']; exact hocd)
theorem store_ok {M : Model} {A : Around} {E : Value → Shared → Prop} {i : Nat} {x : Str} {v : V} {u : Value} {Q : Unit → Shared → Prop} (I : Inv X pins σ H s) (hN : X.N.Nodup) (hi : X.N[i]? = some x) (hx : Loc X.env.scope x) (r : RelV v u)
    (h : ∀ s', Inv X pins (σ.set i (some v)) H s' → Q () s') (hf : X.fn x = true ∨ X.env.scope.names.lookup x = some .local := by first | exact .inl rfl | exact .inr rfl | assumption) : wpAny M A (storeName X.env x u) Q E s :=
  store_ok2 I hN hi hx r (fun s' I' _ => h s' I') hf
/-- behind a call or a block, the state as it is -/
theorem Inv.call' {s' : Shared} {ch : List Addr} (I : Inv X pins σ H s) (ho : s'.os = s.os) (u : Un (frs X.stack) ch H H' s.heap s'.heap) (hok : HOk X.prog X.w H' s'.heap) (hg : AllBare s'.gens)
    (hch : ∀ b ∈ ch, (b ∈ X.ex ∨ X.s₀.heap.objs.size ≤ b) ∧ b ≠ X.env.locals ∧ (∀ x c, X.env.cells.lookup x = some c → c ≠ b) ∧ ∀ p ∈ X.pn ++ pins, p.1 ≠ b) : Inv X pins σ H' s' := by
  obtain ⟨h', g', d', t', o'⟩ := s'
  have e : o' = s.os := ho
  subst e
  exact I.call (g' := g') (t' := t') (d' := d') u hok hg hch
end

/-! ### the judgements -/
/-- an exception: its class, its own dict's address (where it has one), the abstract heap behind it -/
noncomputable abbrev XK := Value → Option Addr → Hp → Prop
noncomputable abbrev St := List (Option V)
noncomputable abbrev VK := V → Hp → Prop
/-- an expression's reading; a test's; an argument list's -/
noncomputable abbrev TE := St → Hp → VK → Prop
noncomputable abbrev TT := St → Hp → (Bool → Hp → Prop) → Prop
noncomputable abbrev TA := St → Hp → (List V → Hp → Prop) → Prop
/-- what is wanted behind a statement -/
structure Ends where
  nx : St → Hp → Prop
  rt : VK
  bk : St → Hp → Prop := fun _ _ => False
  ct : St → Hp → Prop := fun _ _ => False
noncomputable abbrev TS := Ends → St → Hp → Prop

noncomputable def EP (X : Cx) (pins : List (Addr × Obj)) (σ : St) (Q : VK) (u : Value) (s' : Shared) : Prop := ∃ v H', Inv X pins σ H' s' ∧ RelV v u ∧ Q v H'
noncomputable def TP (X : Cx) (pins : List (Addr × Obj)) (σ : St) (Q : Bool → Hp → Prop) (b : Bool) (s' : Shared) : Prop := ∃ H', Inv X pins σ H' s' ∧ Q b H'
noncomputable def AP (X : Cx) (pins : List (Addr × Obj)) (σ : St) (Q : List V → Hp → Prop) (us : List Value) (s' : Shared) : Prop := ∃ vs H', Inv X pins σ H' s' ∧ Vals vs us ∧ Q vs H'
noncomputable def SP (X : Cx) (pins : List (Addr × Obj)) (D : Ends) (f : Flow) (s' : Shared) : Prop :=
  match f with
  | .next => ∃ σ' H', Inv X pins σ' H' s' ∧ D.nx σ' H'
  | .brk => ∃ σ' H', Inv X pins σ' H' s' ∧ D.bk σ' H'
  | .cont => ∃ σ' H', Inv X pins σ' H' s' ∧ D.ct σ' H'
  | .ret u => ∃ v σ' H', Inv X pins σ' H' s' ∧ RelV v u ∧ D.rt v H'

noncomputable def PE (X : Cx) (e : Expr) (t : TE) : Prop :=
  ∀ (pins : List (Addr × Obj)) (s : Shared) (σ : St) (H : Hp) (Q : VK), Inv X pins σ H s → t σ H Q → wpAny (model X.prog X.w) X.A (eval e X.env) (EP X pins σ Q) X.xe s
noncomputable def PT (X : Cx) (e : Expr) (t : TT) : Prop :=
  ∀ (pins : List (Addr × Obj)) (s : Shared) (σ : St) (H : Hp) (Q : Bool → Hp → Prop), Inv X pins σ H s → t σ H Q → wpAny (model X.prog X.w) X.A (isTrue e X.env (eval e X.env)) (TP X pins σ Q) X.xe s
/-- a test whatever its 'whole' is (and, or) -/
noncomputable def PW (X : Cx) (e : Expr) (t : TT) : Prop :=
  ∀ (whole : Sem Value) (pins : List (Addr × Obj)) (s : Shared) (σ : St) (H : Hp) (Q : Bool → Hp → Prop), Inv X pins σ H s → t σ H Q → wpAny (model X.prog X.w) X.A (isTrue e X.env whole) (TP X pins σ Q) X.xe s
theorem PW.pt {X : Cx} {e : Expr} {t : TT} (h : PW X e t) : PT X e t := h _
/-- an argument list (no star), from the left -/
noncomputable def PA (X : Cx) (es : List Expr) (t : TA) : Prop :=
  ∀ (pos : Pos) (pins : List (Addr × Obj)) (s : Shared) (σ : St) (H : Hp) (Q : List V → Hp → Prop), Inv X pins σ H s → t σ H Q → wpAny (model X.prog X.w) X.A (spliced (backTo pos (starEach es X.env))) (AP X pins σ Q) X.xe s
noncomputable def PS (X : Cx) (st : Stmt) (t : TS) : Prop :=
  ∀ (pins : List (Addr × Obj)) (s : Shared) (σ : St) (H : Hp) (D : Ends), Inv X pins σ H s → t D σ H → wpAny (model X.prog X.w) X.A (exec st X.env) (SP X pins D) X.xe s
noncomputable def PSs (X : Cx) (st : List Stmt) (t : TS) : Prop :=
  ∀ (pins : List (Addr × Obj)) (s : Shared) (σ : St) (H : Hp) (D : Ends), Inv X pins σ H s → t D σ H → wpAny (model X.prog X.w) X.A (execs st X.env) (SP X pins D) X.xe s
/-- weaken the end -/
theorem thn {α : Type} {t : Sem α} {Q Q' : α → Shared → Prop} {M : Model} {A : Around} {E : Value → Shared → Prop} {s : Shared} (h : wpAny M A t Q E s) (hQ : ∀ a s, Q a s → Q' a s) : wpAny M A t Q' E s := wpAny_mono h hQ fun _ _ x => x
end L2

namespace L2
open PySem PySem.Spec PyProof.Rows
section
variable {X : Cx}

/-! ### names and constants -/
noncomputable def tVar (i : Nat) : TE := fun σ H Q => ∃ v, σ[i]? = some (some v) ∧ Q v H
noncomputable def tC (v : V) : TE := fun _ H Q => Q v H
theorem pe_var {i : Nat} {x : Str} {pos : Pos} (hN : X.N[i]? = some x) (hv : Vis X.env.scope x) (hd : (x == ("__debug__" : Str)) = false := by decide) (hcd : (x == ("__classdict__" : Str)) = false := by decide) : PE X (.Name x pos) (tVar i) := by
  intro pins s σ H Q I h
  obtain ⟨v, e, h⟩ := h
  obtain ⟨m, hn, hl⟩ := I.loc
  obtain ⟨u, r, l⟩ := hl i x v hN e hv
  have fin : EP X pins σ Q u s := ⟨v, H, I, r, h⟩
  rcases l with ⟨hk, hm⟩ | ⟨hk, c, hc, hcell⟩
  · exact wpAny_Name (wpAny_loadName_local I.ok.kind hk hn hm fin) hd
  · rcases hk with hk | hk
    · exact wpAny_Name (wpAny_loadName_cell I.ok.kind hk hc hcell fin) hd
    · exact wpAny_Name (wpAny_loadName_free I.ok.kind hk hc hcell fin hcd) hd
theorem pe_int {i j pos} : PE X (.Constant (.int i) j pos) (tC (.int i)) := fun _ _ _ H _ I h => wpAny_Constant_int ⟨.int i, H, I.tok _, ⟨_, rfl⟩, h⟩
theorem pe_bl {b j pos} : PE X (.Constant (.bool b) j pos) (tC (.bl b)) := fun _ _ _ H _ I h => Constant_bool ⟨.bl b, H, I, rfl, h⟩
theorem pe_non {j pos} : PE X (.Constant .none j pos) (tC .non) := fun _ _ _ H _ I h => Constant_none ⟨.non, H, I, rfl, h⟩
theorem pe_str {x j pos} : PE X (.Constant (.str x) j pos) (tC (.str x)) := fun _ _ _ H _ I h => Calls.Constant_str ⟨.str x, H, I.tok _, ⟨_, rfl⟩, h⟩

/-- a global name of the def -/
noncomputable def Gl (X : Cx) (x : Str) : Prop := X.env.kindOf x = some .globalImplicit
theorem ld_glob {E : Value → Shared → Prop} {pins : List (Addr × Obj)} {s : Shared} {σ : St} {H : Hp} {x : Str} {u : Value} {pos : Pos} {Q : Value → Shared → Prop} (I : Inv X pins σ H s) (hg : Gl X x) (hm : X.mg x = some u) (h : Q u s)
    (hd : (x == ("__debug__" : Str)) = false := by decide) : wpAny (model X.prog X.w) X.A (eval (.Name x pos) X.env) Q E s :=
  Calls.Name_function_global I.ok.kind hg (Calls.loadGlobal_global (by rw [I.ok.glob]; exact I.mod.glob.keeps I.bk) hm h) hd
theorem ld_blt {E : Value → Shared → Prop} {pins : List (Addr × Obj)} {s : Shared} {σ : St} {H : Hp} {x : Str} {u : Value} {pos : Pos} {Q : Value → Shared → Prop} (I : Inv X pins σ H s) (hg : Gl X x) (hm : X.mg x = none) (hv : bootBuiltins x = some u) (h : Q u s)
    (hn : x ≠ "__name__" := by decide) (hd : (x == ("__debug__" : Str)) = false := by decide) : wpAny (model X.prog X.w) X.A (eval (.Name x pos) X.env) Q E s := by
  obtain ⟨mb, h1, h2⟩ := I.mod.blt
  exact Calls.Name_function_global I.ok.kind hg (Calls.loadGlobal_builtin (by rw [I.ok.glob]; exact I.mod.glob.keeps I.bk) hm (by rw [I.ok.blt]; exact h1.keeps I.bk) ((h2 x hn).trans hv) h) hd
/-- a module's constant, a class, a function, as a value -/
theorem pe_glob {x : Str} {v : V} {u : Value} {pos : Pos} (hg : Gl X x) (hm : X.mg x = some u) (r : RelV v u) (hd : (x == ("__debug__" : Str)) = false := by decide) : PE X (.Name x pos) (tC v) :=
  fun _ _ _ H _ I h => ld_glob I hg hm ⟨v, H, I, r, h⟩ hd
theorem pe_bltn {x : Str} {v : V} {u : Value} {pos : Pos} (hg : Gl X x) (hm : X.mg x = none) (hv : bootBuiltins x = some u) (r : RelV v u) (hn : x ≠ "__name__" := by decide) (hd : (x == ("__debug__" : Str)) = false := by decide) : PE X (.Name x pos) (tC v) :=
  fun _ _ _ H _ I h => ld_blt I hg hm hv ⟨v, H, I, r, h⟩ hn hd

variable {a b : Expr} {ta tb : TE} {pos : Pos}
/-- a comparison as a value, as a test -/
noncomputable def tB (t : TE) : TT := fun σ H Q => t σ H fun x H1 => ∃ c, x = .bl c ∧ Q c H1
/-- an expression whose value is a bool, as a test -/
theorem pt_val {e : Expr} {t : TE} (h : PE X e t) (he : ∀ whole, isTrue e X.env whole = (do let v ← whole; standAt e.pos; holding [v] (truthy v)) := by intro _; rfl) : PT X e (tB t) := by
  intro pins s σ H Q I hw
  refine isTrue_plain (thn (h pins s σ H _ I hw) fun v s1 ⟨x, H1, I1, r1, q1⟩ => ?_) (he _)
  obtain ⟨d, rfl, q⟩ := q1
  cases r1
  exact wpAny_truthy_bool ⟨H1, I1, q⟩

/-! ### and, or, not -/
variable {tA tB' : TT} {rest : List Expr}
noncomputable def tAnd (t u : TT) : TT := fun σ H Q => t σ H fun c H1 => if c = true then u σ H1 Q else Q false H1
noncomputable def tOr (t u : TT) : TT := fun σ H Q => t σ H fun c H1 => if c = true then Q true H1 else u σ H1 Q
noncomputable def tNot (t : TT) : TT := fun σ H Q => t σ H fun c H1 => Q (!c) H1
theorem pw_and1 (ha : PT X a tA) : PW X (.BoolOp .And [a] pos) tA := by
  intro wh pins s σ H Q I h
  refine isTrue_and (thn (ha pins s σ H Q I h) fun c s1 e => ?_)
  cases c with
  | true => exact isTrue_and_nil e
  | false => exact e
theorem pw_or1 (ha : PT X a tA) : PW X (.BoolOp .Or [a] pos) tA := by
  intro wh pins s σ H Q I h
  refine isTrue_or (thn (ha pins s σ H Q I h) fun c s1 e => ?_)
  cases c with
  | false => exact isTrue_or_nil e
  | true => exact e
theorem pw_and (ha : PT X a tA) (hb : PW X (.BoolOp .And (b :: rest) pos) tB') : PW X (.BoolOp .And (a :: b :: rest) pos) (tAnd tA tB') := by
  intro wh pins s σ H Q I h
  refine isTrue_and (thn (ha pins s σ H _ I h) fun c s1 ⟨H1, I1, q1⟩ => ?_)
  cases c with
  | true => exact hb wh pins s1 σ H1 Q I1 q1
  | false => exact ⟨H1, I1, q1⟩
theorem pw_or (ha : PT X a tA) (hb : PW X (.BoolOp .Or (b :: rest) pos) tB') : PW X (.BoolOp .Or (a :: b :: rest) pos) (tOr tA tB') := by
  intro wh pins s σ H Q I h
  refine isTrue_or (thn (ha pins s σ H _ I h) fun c s1 ⟨H1, I1, q1⟩ => ?_)
  cases c with
  | true => exact ⟨H1, I1, q1⟩
  | false => exact hb wh pins s1 σ H1 Q I1 q1
theorem pt_not (ha : PT X a tA) : PT X (.UnaryOp .Not a pos) (tNot tA) := by
  intro pins s σ H Q I h
  exact isTrue_not (ha pins s σ H (fun c H1 => Q (!c) H1) I h)
/-- .. as values (bools) -/
noncomputable def tAndV (ta tb : TE) : TE := fun σ H Q => ta σ H fun x H1 => ∃ c, x = .bl c ∧ if c = true then tb σ H1 Q else Q (.bl false) H1
noncomputable def tOrV (ta tb : TE) : TE := fun σ H Q => ta σ H fun x H1 => ∃ c, x = .bl c ∧ if c = true then Q (.bl true) H1 else tb σ H1 Q
noncomputable def tNotV (ta : TE) : TE := fun σ H Q => ta σ H fun x H1 => ∃ c, x = .bl c ∧ Q (.bl (!c)) H1
theorem pe_one {op} {t : TE} (h : PE X a t) : PE X (.BoolOp op [a] pos) t := fun pins s σ H Q I hw => BoolOp_one (h pins s σ H Q I hw)
theorem pe_and (ha : PE X a ta) (hb : PE X (.BoolOp .And (b :: rest) pos) tb) : PE X (.BoolOp .And (a :: b :: rest) pos) (tAndV ta tb) := by
  intro pins s σ H Q I h
  refine BoolOp_and (thn (ha pins s σ H _ I h) fun v s1 ⟨x, H1, I1, r1, q1⟩ => ?_)
  obtain ⟨c, rfl, q1⟩ := q1
  cases r1
  refine wpAny_truthy_bool ?_
  cases c with
  | true => exact hb pins s1 σ H1 Q I1 q1
  | false => exact ⟨.bl false, H1, I1, rfl, q1⟩
theorem pe_or (ha : PE X a ta) (hb : PE X (.BoolOp .Or (b :: rest) pos) tb) : PE X (.BoolOp .Or (a :: b :: rest) pos) (tOrV ta tb) := by
  intro pins s σ H Q I h
  refine BoolOp_or (thn (ha pins s σ H _ I h) fun v s1 ⟨x, H1, I1, r1, q1⟩ => ?_)
  obtain ⟨c, rfl, q1⟩ := q1
  cases r1
  refine wpAny_truthy_bool ?_
  cases c with
  | false => exact hb pins s1 σ H1 Q I1 q1
  | true => exact ⟨.bl true, H1, I1, rfl, q1⟩
theorem pe_not (ha : PE X a ta) : PE X (.UnaryOp .Not a pos) (tNotV ta) := by
  intro pins s σ H Q I h
  refine UnaryOp_ (thn (ha pins s σ H _ I h) fun v s1 ⟨x, H1, I1, r1, q1⟩ => ?_)
  obtain ⟨c, rfl, q1⟩ := q1
  cases r1
  exact not_of (wpAny_truthy_bool ⟨.bl (!c), H1, I1, rfl, q1⟩)
end
end L2

namespace L2
open PySem PySem.Spec PyProof.Rows

/-! ### a list, a tuple that is read: tracked, frozen, or an object of the module -/
noncomputable def SqL (K : PySem.W.Frag) (H : Hp) (a : Addr) (xs : List V) : Prop :=
  Rd H a (.lst xs) ∨
    ∃ (o : Obj) (its : Array Value) (n : Nat), K.lookup a = some o ∧ o.cls = .type "list" ∧ o.dict = none ∧ o.data = .seq its n ∧ its.size ≤ sizeLine ∧ Vals xs its.toList
noncomputable def SqT (K : PySem.W.Frag) (H : Hp) (a : Addr) (xs : List V) : Prop :=
  Rd H a (.tup xs) ∨
    ∃ (o : Obj) (its : Array Value) (n : Nat), K.lookup a = some o ∧ o.cls = .type "tuple" ∧ o.data = .seq its n ∧ its.size ≤ sizeLine ∧ Vals xs its.toList
noncomputable def absV : Value → Option V
  | .none => some .non
  | .bool b => some (.bl b)
  | .int i _ => some (.int i)
  | .str x _ => some (.str x)
  | .bytes b _ => some (.byt b)
  | .float b _ => some (.flt b)
  | .ref a => some (.ref a)
  | .type n => some (.ty n)
  | _ => none
theorem RelV.abs {x : V} {u : Value} (r : RelV x u) : absV u = some x := by
  cases x with
  | non => cases r; rfl
  | bl _ => cases r; rfl
  | int _ => obtain ⟨t, rfl⟩ := r; rfl
  | str _ => obtain ⟨t, rfl⟩ := r; rfl
  | byt _ => obtain ⟨t, rfl⟩ := r; rfl
  | flt _ => obtain ⟨t, rfl⟩ := r; rfl
  | ref _ => cases r; rfl
  | ty _ => cases r; rfl
theorem RelV.inj {x y : V} {u : Value} (r : RelV x u) (q : RelV y u) : x = y := Option.some.inj (r.abs.symm.trans q.abs)
theorem Vals.inj : ∀ {xs ys : List V} {us : List Value}, Vals xs us → Vals ys us → xs = ys
  | _, _, _, .nil, .nil => rfl
  | _, _, _, .cons r t, .cons r' t' => by rw [r.inj r', Vals.inj t t']
section
variable {X : Cx} {pins : List (Addr × Obj)} {σ : St} {H : Hp} {s : Shared} {a : Addr} {xs ys : List V}
theorem SqL.of {K : PySem.W.Frag} (h : H a = some (.lst xs)) : SqL K H a xs := .inl (.inl h)
theorem SqT.of {K : PySem.W.Frag} (h : H a = some (.tup xs)) : SqT K H a xs := .inl (.inl h)
theorem Inv.list (I : Inv X pins σ H s) (h : SqL X.K H a xs) : ∃ its : List Value, Vals xs its ∧ PlainL s.heap a its.toArray ∧ xs.length ≤ sizeLine := by
  rcases h with h | ⟨o, its, n, hk, hc, hd, hs, hz, r⟩
  · obtain ⟨z, its, n, r, e⟩ := h.ok I.hok
    exact ⟨its, r, ⟨_, n, e, rfl, rfl, rfl⟩, z⟩
  · refine ⟨its.toList, r, ⟨o, n, I.kIn a o hk, hc, hd, by simpa using hs⟩, ?_⟩
    have e := r.length
    simp only [Array.length_toList] at e
    omega
theorem Inv.tuple (I : Inv X pins σ H s) (h : SqT X.K H a xs) : ∃ its : List Value, Vals xs its ∧ IsTup s.heap a its.toArray ∧ xs.length ≤ sizeLine := by
  rcases h with h | ⟨o, its, n, hk, hc, hs, hz, r⟩
  · obtain ⟨z, its, r, p⟩ := h.ok I.hok
    exact ⟨its, r, p, z⟩
  · refine ⟨its.toList, r, ⟨o, I.kIn a o hk, hc, n, by simpa using hs⟩, ?_⟩
    have e := r.length
    simp only [Array.length_toList] at e
    omega
theorem Inv.list_inj (I : Inv X pins σ H s) (h : SqL X.K H a xs) (h' : SqL X.K H a ys) : xs = ys := by
  obtain ⟨its, r, ⟨o, n, e, _, _, d⟩, _⟩ := I.list h
  obtain ⟨its', r', ⟨o', n', e', _, _, d'⟩, _⟩ := I.list h'
  rw [e] at e'; cases e'
  rw [d] at d'
  injection d' with d1 _
  have : its = its' := by simpa using congrArg Array.toList d1
  subst this
  exact r.inj r'
theorem Inv.tuple_inj (I : Inv X pins σ H s) (h : SqT X.K H a xs) (h' : SqT X.K H a ys) : xs = ys := by
  obtain ⟨its, r, ⟨o, e, _, n, d⟩, _⟩ := I.tuple h
  obtain ⟨its', r', ⟨o', e', _, n', d'⟩, _⟩ := I.tuple h'
  rw [e] at e'; cases e'
  rw [d] at d'
  injection d' with d1 _
  have : its = its' := by simpa using congrArg Array.toList d1
  subst this
  exact r.inj r'
end

/-! ### another wish about exceptions -/
noncomputable abbrev Cx.wish (X : Cx) (E : Value → Shared → Prop) : Cx := { X with xe := E }
/-- no exception leaves -/
noncomputable abbrev Cx.nox (X : Cx) : Cx := X.wish fun _ _ => False
theorem Cx.Ok.wish {X : Cx} (ok : X.Ok) (E : Value → Shared → Prop) : (X.wish E).Ok :=
  ⟨ok.mod, ok.kind, ok.glob, ok.blt, ok.above, ok.inj, ok.has, ok.cab, ok.hd, ok.frames, ok.stk, ok.exf, ok.bs, ok.bsz, ok.noex, ok.exfs, ok.funs, ok.frf⟩
theorem Cx.Ok.unwish {X : Cx} {E : Value → Shared → Prop} (ok : (X.wish E).Ok) : X.Ok :=
  ⟨ok.mod, ok.kind, ok.glob, ok.blt, ok.above, ok.inj, ok.has, ok.cab, ok.hd, ok.frames, ok.stk, ok.exf, ok.bs, ok.bsz, ok.noex, ok.exfs, ok.funs, ok.frf⟩
section
variable {X : Cx} {pins : List (Addr × Obj)} {σ : St} {H : Hp} {s : Shared} {E : Value → Shared → Prop}
theorem Inv.wish (I : Inv X pins σ H s) (E : Value → Shared → Prop) : Inv (X.wish E) pins σ H s := ⟨I.ok.wish E, I.os, I.bare, I.base, I.loc, I.cell, I.free, I.freeC, I.pin, I.hok, I.len⟩
theorem Inv.unwish (I : Inv (X.wish E) pins σ H s) : Inv X pins σ H s := ⟨I.ok.unwish, I.os, I.bare, I.base, I.loc, I.cell, I.free, I.freeC, I.pin, I.hok, I.len⟩
theorem SP.unwish {D : Ends} {f : Flow} {s' : Shared} (h : SP (X.wish E) pins D f s') : SP X pins D f s' := by
  cases f with
  | next => obtain ⟨σ', H', I, q⟩ := h; exact ⟨σ', H', I.unwish, q⟩
  | brk => obtain ⟨σ', H', I, q⟩ := h; exact ⟨σ', H', I.unwish, q⟩
  | cont => obtain ⟨σ', H', I, q⟩ := h; exact ⟨σ', H', I.unwish, q⟩
  | ret u => obtain ⟨v, σ', H', I, r, q⟩ := h; exact ⟨v, σ', H', I.unwish, r, q⟩
theorem PT.nox {e : Expr} {t : TT} (h : PT X.nox e t) : PT X e t := fun pins s σ H Q I hw =>
  wpAny_mono (h pins s σ H Q (I.wish _) hw) (fun _ _ ⟨H', I', q⟩ => ⟨H', I'.unwish, q⟩) fun _ _ z => False.elim z
theorem PSs.nox {st : List Stmt} {t : TS} (h : PSs X.nox st t) : PSs X st t := fun pins s σ H D I hw =>
  wpAny_mono (h pins s σ H D (I.wish _) hw) (fun _ _ q => q.unwish) fun _ _ z => False.elim z
end

/-! ### blocks and small statements -/
section
variable {X : Cx} {st : Stmt} {rest : List Stmt} {t u : TS} {e : Expr} {te : TE} {pos : Pos}
noncomputable def tNext : TS := fun D σ H => D.nx σ H
noncomputable def tSeq (t u : TS) : TS := fun D σ H => t { D with nx := u D } σ H
theorem pss_nil : PSs X [] tNext := fun _ _ σ H _ I h => wpAny_execs_nil ⟨σ, H, I, h⟩
theorem pss_cons (h1 : PS X st t) (h2 : PSs X rest u) : PSs X (st :: rest) (tSeq t u) := by
  intro pins s σ H D I h
  refine wpAny_execs_cons (thn (h1 pins s σ H { D with nx := u D } I h) fun f s1 q => ?_)
  cases f with
  | next =>
    obtain ⟨σ', H', I', q⟩ := q
    exact h2 pins s1 σ' H' D I' q
  | ret v => exact q
  | brk => exact q
  | cont => exact q
theorem pss_one (h1 : PS X st t) : PSs X [st] t := by
  intro pins s σ H D I h
  refine wpAny_execs_cons (thn (h1 pins s σ H D I h) fun f s1 q => ?_)
  cases f with
  | next => exact wpAny_execs_nil q
  | ret v => exact q
  | brk => exact q
  | cont => exact q
/-- in a def's body nothing is shown -/
theorem Inv.quiet {pins : List (Addr × Obj)} {σ : St} {H : Hp} {s : Shared} (I : Inv X pins σ H s) : interactive X.env = false := by simp [interactive, I.ok.kind]
/-- an expression whose value is dropped -/
noncomputable def tDrop (te : TE) : TS := fun D σ H => te σ H fun _ H1 => D.nx σ H1
theorem ps_expr (he : PE X e te) (hs : swapsWith e none pos.line X.env = pure false := by rfl) : PS X (.Expr e pos) (tDrop te) := by
  intro pins s σ H D I h
  exact wpAny_Expr_any (thn (he pins s σ H _ I h) fun v s1 ⟨x, H1, I1, r1, q1⟩ => ⟨σ, H1, I1, q1⟩) I.quiet hs
noncomputable def tRet (te : TE) : TS := fun D σ H => te σ H D.rt
theorem ps_ret (he : PE X e te) : PS X (.Return (some e) pos) (tRet te) := by
  intro pins s σ H D I h
  exact wpAny_Return_some (thn (he pins s σ H _ I h) fun v s1 ⟨x, H1, I1, r1, q1⟩ => ⟨x, σ, H1, I1, r1, q1⟩)
noncomputable def tIfS (c : TT) (t u : TS) : TS := fun D σ H => c σ H fun b H1 => if b = true then t D σ H1 else u D σ H1
theorem ps_if {c : Expr} {a b : List Stmt} {tc : TT} (hc : PT X c tc) (ha : PSs X a t) (hb : PSs X b u) : PS X (.If c a b pos) (tIfS tc t u) := by
  intro pins s σ H D I h
  refine wpAny_If (thn (hc pins s σ H _ I h) fun d s1 ⟨H1, I1, q1⟩ => ?_)
  cases d with
  | true => exact ha pins s1 σ H1 D I1 q1
  | false => exact hb pins s1 σ H1 D I1 q1
/-- code that the proof never comes to -/
noncomputable def tNever : TS := fun _ _ _ => False
theorem ps_never : PS X st tNever := fun _ _ _ _ _ _ h => h.elim
theorem pss_never {sts : List Stmt} : PSs X sts tNever := fun _ _ _ _ _ _ h => h.elim
end

/-! ### targets -/
noncomputable abbrev TG := V → St → Hp → (St → Hp → Prop) → Prop
noncomputable abbrev TGs := List V → St → Hp → (St → Hp → Prop) → Prop
noncomputable def PG (X : Cx) (target : Expr) (t : TG) : Prop :=
  ∀ (pins : List (Addr × Obj)) (s : Shared) (σ : St) (H : Hp) (v : V) (u : Value) (Q : St → Hp → Prop), Inv X pins σ H s → RelV v u → t v σ H Q →
    wpAny (model X.prog X.w) X.A (assign target X.env u) (fun _ s' => ∃ σ' H', Inv X pins σ' H' s' ∧ Q σ' H') X.xe s
/-- several targets, one after another -/
noncomputable def PGs (X : Cx) (ts : List Expr) (t : TGs) : Prop :=
  ∀ (pins : List (Addr × Obj)) (s : Shared) (σ : St) (H : Hp) (vs : List V) (us : List Value) (Q : St → Hp → Prop), Inv X pins σ H s → Vals vs us → t vs σ H Q →
    wpAny (model X.prog X.w) X.A (assignInOrder ((assignEach ts X.env).map (·.2)) us) (fun _ s' => ∃ σ' H', Inv X pins σ' H' s' ∧ Q σ' H') X.xe s
section
variable {X : Cx} {pos : Pos}
noncomputable def gName (i : Nat) : TG := fun v σ H Q => Q (σ.set i (some v)) H
theorem pg_name {i : Nat} {x : Str} (hN : X.N.Nodup) (hi : X.N[i]? = some x) (hx : Loc X.env.scope x) (hf : X.fn x = true ∨ X.env.scope.names.lookup x = some .local := by first | exact .inl rfl | exact .inr rfl | assumption) : PG X (.Name x pos) (gName i) := by
  intro pins s σ H v u Q I r h
  exact wpAny_assign_Name (store_ok I hN hi hx r (fun s' I' => ⟨_, H, I', h⟩) hf)
noncomputable def gNil : TGs := fun vs σ H Q => vs = [] ∧ Q σ H
noncomputable def gCons (t : TG) (u : TGs) : TGs := fun vs σ H Q => ∃ v r, vs = v :: r ∧ t v σ H fun σ' H' => u r σ' H' Q
theorem pgs_nil : PGs X [] gNil := by
  intro pins s σ H vs us Q I r h
  obtain ⟨e, h⟩ := h
  subst e
  cases r
  exact assignInOrder_nil ⟨σ, H, I, h⟩
theorem pgs_cons {e : Expr} {es : List Expr} {t : TG} {u : TGs} (h1 : PG X e t) (h2 : PGs X es u)
    (hs : (assignEach (e :: es) X.env).map (·.2) = assign e X.env :: (assignEach es X.env).map (·.2) := by rfl) : PGs X (e :: es) (gCons t u) := by
  intro pins s σ H vs us Q I r h
  obtain ⟨v, vr, e1, h⟩ := h
  subst e1
  cases r with
  | cons r rr =>
    rw [hs]
    refine assignInOrder_cons (thn (h1 pins s σ H _ _ _ I r h) fun _ s1 ⟨σ1, H1, I1, q1⟩ => ?_)
    exact h2 pins s1 σ1 H1 _ _ Q I1 rr q1
/-- (a, b, ..) = a tuple of that length -/
noncomputable def gTup (K : PySem.W.Frag) (n : Nat) (t : TGs) : TG := fun v σ H Q => ∃ a xs, v = .ref a ∧ SqT K H a xs ∧ xs.length = n ∧ t xs σ H Q
theorem pg_tup {es : List Expr} {k : Nat} {t : TGs} {n : Nat} (hc : X.calm = true) (h : PGs X es t)
    (hn : (assignEach es X.env).length = n := by rfl) (hst : (assignEach es X.env).findIdx? (·.1) = none := by rfl) : PG X (.Tuple es k pos) (gTup X.K n t) := by
  intro pins s σ H v u Q I r hw
  obtain ⟨a, xs, e1, hq, hl, hw⟩ := hw
  subst e1
  cases r
  obtain ⟨its, rv, ht, hz⟩ := I.tuple hq
  refine assign_Tuple_tuple (I.ok.hd hc) ht (by simp [hn, ← hl, rv.length]) hst fun h' hx => ?_
  have I1 : Inv X pins σ H { s with heap := h' } := I.kept (t' := s.toks) fun b o e => hx b o (Nat.ne_of_lt (Heap.lt_size e)) e
  exact h pins _ σ H xs _ Q I1 (by simpa using rv) hw
/-- target = value -/
noncomputable def tAsg (te : TE) (g : TG) : TS := fun D σ H => te σ H fun x H1 => g x σ H1 D.nx
theorem ps_asg {tg e : Expr} {te : TE} {g : TG} (he : PE X e te) (hg : PG X tg g) (hs : swapsWithSole [tg] e pos.line X.env = pure false := by rfl) (hw : swappedStores [tg] e X.env = pure none := by rfl)
    (h1 : (assignEach [tg] X.env).map (·.2) = [assign tg X.env] := by rfl) : PS X (.Assign [tg] e pos) (tAsg te g) := by
  intro pins s σ H D I h
  refine wpAny_Assign_stores (thn (he pins s σ H _ I h) fun v s1 ⟨x, H1, I1, r1, q1⟩ => ?_) hs hw
  rw [h1]
  exact thn (hg pins s1 σ H1 x v _ I1 r1 q1) fun _ s2 q => q
/-- name = value -/
theorem ps_set {i : Nat} {x : Str} {e : Expr} {te : TE} {pos' : Pos} (hN : X.N.Nodup) (hi : X.N[i]? = some x) (hx : Loc X.env.scope x) (he : PE X e te) (hs : swapsWith e (some (.Name x pos')) pos.line X.env = pure false := by rfl) (hf : X.fn x = true ∨ X.env.scope.names.lookup x = some .local := by first | exact .inl rfl | exact .inr rfl | assumption) :
    PS X (.Assign [.Name x pos'] e pos) (tAsg te (gName i)) := by
  intro pins s σ H D I h
  refine wpAny_Assign_Name (thn (he pins s σ H _ I h) fun v s1 ⟨y, H1, I1, r1, q1⟩ => ?_) hs
  exact store_ok I1 hN hi hx r1 (fun s2 I2 => ⟨_, H1, I2, q1⟩) hf
end

/-! ### while -/
section
variable {X : Cx} {pos : Pos}
/-- the invariant W with its measure -/
noncomputable def tWhile (c : TT) (tb : TS) : TS := fun D σ H => ∃ W : Nat → St → Hp → Prop, (∃ m, W m σ H) ∧ ∀ m σ H, W m σ H →
  c σ H fun b H1 => if b = true then ∃ N : St → Hp → Prop, (∀ σ' H', N σ' H' → ∃ m', m' < m ∧ W m' σ' H') ∧ tb { D with nx := N, ct := N, bk := D.nx } σ H1 else D.nx σ H1
theorem ps_while {c : Expr} {body : List Stmt} {tc : TT} {tb : TS} (hp : PassesOwn (model X.prog X.w) X.A X.env X.xe) (hc : PT X c tc) (hb : PSs X body tb) : PS X (.While c body [] pos) (tWhile tc tb) := by
  intro pins s σ H D I h
  obtain ⟨W, ⟨m0, w0⟩, turn⟩ := h
  refine wpAny_While (codeAny_whileLoop (fun n s' => ∃ σ' H', Inv X pins σ' H' s' ∧ W n σ' H') ?_ m0 ⟨σ, H, I, w0⟩)
  rintro n s1 ⟨σ1, H1, I1, w1⟩
  refine wpAny_passesOwn hp (thn (hc pins s1 σ1 H1 _ I1 (turn n σ1 H1 w1)) fun b s2 ⟨H2, I2, q2⟩ => ?_)
  cases b with
  | true =>
    obtain ⟨N, hN, q2⟩ := q2
    rw [if_pos rfl]
    refine wpAny_passesOwn hp (thn (hb pins s2 σ1 H2 _ I2 q2) fun f s3 q3 => ?_)
    cases f with
    | next =>
      obtain ⟨σ3, H3, I3, n3⟩ := q3
      obtain ⟨m', hm, w3⟩ := hN σ3 H3 n3
      exact ⟨m', hm, σ3, H3, I3, w3⟩
    | cont =>
      obtain ⟨σ3, H3, I3, n3⟩ := q3
      obtain ⟨m', hm, w3⟩ := hN σ3 H3 n3
      exact ⟨m', hm, σ3, H3, I3, w3⟩
    | brk => exact q3
    | ret v => exact q3
  | false =>
    rw [if_neg Bool.false_ne_true]
    exact wpAny_execs_nil ⟨σ1, H2, I2, q2⟩
end

/-! ### what a loop or a comprehension walks -/
/-- at turn i: it yields x (the heap may grow), or it stops -/
structure It where
  go : Nat → Hp → Prop
  yld : Nat → Hp → V → Hp → Prop
  stop : Nat → Hp → Prop
/-- the iterator's own objects may turn: they are not the frame's, not pinned, younger than the entry (or a comprehension's own) -/
noncomputable def FpOk (X : Cx) (pins : List (Addr × Obj)) (H : Hp) (b : Addr) : Prop :=
  H b = none ∧ b ≠ X.env.locals ∧ b ∉ X.fs ∧ (b ∈ X.ex ∨ X.s₀.heap.objs.size ≤ b) ∧ (∀ x c, X.env.cells.lookup x = some c → c ≠ b) ∧ ∀ p ∈ X.pn ++ pins, p.1 ≠ b
theorem Inv.fpOk {X : Cx} {pins : List (Addr × Obj)} {σ : St} {H H' : Hp} {s : Shared} {b : Addr} (I : Inv X pins σ H s) (hb : s.heap.objs.size ≤ b) (hn : H' b = none) : FpOk X pins H' b := by
  refine ⟨hn, Nat.ne_of_gt (Nat.lt_of_lt_of_le I.lt hb), I.nofs hb, .inr (Nat.le_trans I.sz hb), fun x c e z => ?_, fun p hp z => ?_⟩
  · obtain ⟨v, q⟩ := I.cell x c e
    exact absurd (Nat.lt_of_lt_of_le q.lt (by rw [z]; exact hb)) (Nat.lt_irrefl _)
  · exact absurd (Nat.lt_of_lt_of_le (Heap.lt_size (I.pin p hp).1) (by rw [z]; exact hb)) (Nat.lt_irrefl _)
structure Turn (P : Program) (w : World) (K : PySem.W.Frag) (tg : Expr) (J : It) (fp : List Addr) (it : Addr) (tn : Nat → Heap → Prop) : Prop where
  mem : it ∈ fp
  obj : ∀ i h, tn i h → ∀ b ∈ fp, ∃ o, h.get? b = some o ∧ ∀ v, o.data ≠ .cell v
  keep : ∀ i h h', tn i h → (∀ b ∈ fp, ∀ o, h.get? b = some o → h'.get? b = some o) → tn i h'
  item : ∀ (X : Cx), X.prog = P → X.w = w → X.K = K → X.calm = true → ∀ (i : Nat) (pins : List (Addr × Obj)) (s : Shared) (σ : St) (H : Hp) (E : Value → Shared → Prop), Inv X pins σ H s → (∀ b ∈ fp, FpOk X pins H b) → tn i s.heap → J.go i H →
    wpAny (model P w) X.A (pyNext (.ref it)) (fun r s1 => ∃ u, r = some u ∧
      wpAny (model P w) X.A (letOwnedTupleGo tg (.ref it) u) (fun _ s2 => ∃ x H', Inv X pins σ H' s2 ∧ RelV x u ∧ J.yld i H x H' ∧ tn (i + 1) s2.heap ∧ ∀ b ∈ fp, H' b = none) E s1) E s
  done : ∀ (X : Cx), X.prog = P → X.w = w → X.K = K → X.calm = true → ∀ (i : Nat) (pins : List (Addr × Obj)) (s : Shared) (σ : St) (H : Hp) (E : Value → Shared → Prop), Inv X pins σ H s → (∀ b ∈ fp, FpOk X pins H b) → tn i s.heap → J.stop i H →
    wpAny (model P w) X.A (pyNext (.ref it)) (fun r s1 => r = none ∧ Inv X pins σ H s1) E s
  self : ∀ (A : Around) (i : Nat) (s : Shared) (Q : Value → Shared → Prop) (E : Value → Shared → Prop), tn i s.heap → Q (.ref it) s → wpAny (model P w) A (pyIter (.ref it)) Q E s
noncomputable abbrev TI := St → Hp → (It → Hp → Prop) → Prop
/-- an iterator has come -/
noncomputable def PIE (X : Cx) (pins : List (Addr × Obj)) (σ : St) (tg : Expr) (R : It → Hp → Prop) (itv : Value) (s2 : Shared) : Prop :=
  ∃ (it : Addr) (fp : List Addr) (tn : Nat → Heap → Prop) (J : It) (H' : Hp), itv = .ref it ∧ Inv X pins σ H' s2 ∧ Turn X.prog X.w X.K tg J fp it tn ∧ tn 0 s2.heap ∧ (∀ b ∈ fp, FpOk X pins H' b) ∧ R J H'
noncomputable def PI (X : Cx) (tg iter : Expr) (wi : TI) : Prop :=
  ∀ (pins : List (Addr × Obj)) (s : Shared) (σ : St) (H : Hp) (R : It → Hp → Prop), Inv X pins σ H s → wi σ H R →
    wpAny (model X.prog X.w) X.A (eval iter X.env) (fun v s1 => wpAny (model X.prog X.w) X.A (pyIter v) (PIE X pins σ tg R) X.xe s1) X.xe s

/-- the step ahead of the store is nothing for an iterator that keeps no tuple -/
theorem go_of {M : Model} {A : Around} {E : Value → Shared → Prop} {s : Shared} {tg : Expr} {it : Addr} {u : Value} {o : Obj} {n : String} {vs : Array Value} {Q : Unit → Shared → Prop} (ho : s.heap.get? it = some o) (hc : o.cls = .type n) (hd : o.data = .fields vs)
    (hn : ["enumerate", "zip", "dict_itemiterator", "dict_reverseitemiterator", "odict_iterator", "itertools.zip_longest", "itertools.pairwise"].contains n = false) (hQ : Q () s) : wpAny M A (letOwnedTupleGo tg (.ref it) u) Q E s := by
  unfold letOwnedTupleGo
  cases tg <;> first
    | exact wpAny_pure hQ
    | (cases u <;> first
        | exact wpAny_pure hQ
        | (refine wpAny_bind (wpAny_load ho ?_)
           rw [hc, hd]
           show wpAny M A (if (["enumerate", "zip", "dict_itemiterator", "dict_reverseitemiterator", "odict_iterator", "itertools.zip_longest", "itertools.pairwise"].contains n && vs[0]? == some (rawInt _)) = true then _ else _) Q E s
           rw [if_neg (by intro h; rw [hn, Bool.false_and] at h; cases h)]
           exact wpAny_pure hQ))

/-- the list at a, as it stands at each turn (a loop may append to it) -/
noncomputable def Itl (K : PySem.W.Frag) (a : Addr) : It :=
  ⟨fun i H => ∃ xs x, SqL K H a xs ∧ xs[i]? = some x, fun i H x H' => H' = H ∧ ∀ xs, SqL K H a xs → xs[i]? = some x, fun i H => ∃ xs, SqL K H a xs ∧ xs.length ≤ i⟩
/-- lo, lo + 1, .. (n of them) -/
noncomputable def Itr (lo : Int) (n : Nat) : It := ⟨fun i _ => i < n, fun i H x H' => H' = H ∧ x = .int (lo + i), fun i _ => n ≤ i⟩
theorem turn_list {P : Program} {w : World} {K : PySem.W.Frag} {tg : Expr} (a it : Addr) : Turn P w K tg (Itl K a) [it] it (fun i h => h.IsListIter it a i) where
  mem := by simp
  obj := fun i h st b hb => by
    have e : b = it := by simpa using hb
    subst e
    obtain ⟨o, e, c, d⟩ := st
    exact ⟨o, e, fun v z => by rw [d] at z; cases z⟩
  keep := fun i h h' st k => st.at fun o e => k it (by simp) o e
  item := by
    intro X hP hw hK hc i pins s σ H E I hf st hg
    subst hP hw hK
    obtain ⟨xs, x, hq, hx⟩ := hg
    obtain ⟨its, rv, p, hz⟩ := I.list hq
    obtain ⟨u, hu, ru⟩ := rv.get hx
    obtain ⟨f0, f1, f2, f3, f4, f5⟩ := hf it (by simp)
    refine wpAny_pyNext_list_item st p.isList (x := u) (by simpa using hu) fun h' st' sb => ?_
    have I1 : Inv X pins σ H { s with heap := h' } := I.turned (t' := s.toks) (fun b o hb e => (sb.2 b hb).trans e) f0 f1 f3 f4 f5
    obtain ⟨o, e, c, d⟩ := id st'
    exact ⟨u, rfl, go_of (s := { s with heap := h' }) e c d (by decide) ⟨x, H, I1, ru, ⟨rfl, fun ys hy => by rw [I.list_inj hy hq]; exact hx⟩, st', fun b hb => (hf b hb).1⟩⟩
  done := by
    intro X hP hw hK hc i pins s σ H E I hf st hg
    subst hP hw hK
    obtain ⟨xs, hq, hx⟩ := hg
    obtain ⟨its, rv, p, hz⟩ := I.list hq
    obtain ⟨f0, f1, f2, f3, f4, f5⟩ := hf it (by simp)
    have hl := rv.length
    exact wpAny_pyNext_list_end (I.ok.hd hc) st p.isList (by simp; omega) fun h' eb => ⟨rfl, I.turned (t' := s.toks) (fun b o hb e => eb b o hb e) f0 f1 f3 f4 f5⟩
  self := fun _ _ _ _ _ st h => wpAny_pyIter_listiter st h
theorem turn_range {P : Program} {w : World} {K : PySem.W.Frag} {tg : Expr} (it : Addr) (lo : Int) (n : Nat) : Turn P w K tg (Itr lo n) [it] it (fun i h => IsRangeIter h it (lo + (i : Nat) * 1) ((n : Int) - (i : Nat)) 1) where
  mem := by simp
  obj := fun i h st b hb => by
    have e : b = it := by simpa using hb
    subst e
    exact ⟨_, st, fun v z => by
      have z' : Data.fields _ = Data.cell v := z
      cases z'⟩
  keep := fun i h h' st k => k it (by simp) _ st
  item := by
    intro X hP hw hK hc i pins s σ H E I hf st hg
    subst hP hw hK
    obtain ⟨f0, f1, f2, f3, f4, f5⟩ := hf it (by simp)
    have W := Walks.range (prog := X.prog) (w := X.w) (I.ok.hd hc) it lo 1 n
    refine W.item i s _ _ hg st fun v h' tk hv st' kk => ?_
    obtain ⟨t, rfl⟩ := hv
    have I1 : Inv X pins σ H { s with heap := h', toks := tk } := I.turned (fun b o hb e => kk b o (by simpa using hb) e) f0 f1 f3 f4 f5
    refine ⟨_, rfl, go_of (s := { s with heap := h', toks := tk }) (n := "range_iterator") st' rfl rfl (by decide) ⟨.int (lo + i), H, I1, ⟨t, ?_⟩, ⟨rfl, rfl⟩, st', fun b hb => (hf b hb).1⟩⟩
    rw [Int.mul_one]
  done := by
    intro X hP hw hK hc i pins s σ H E I hf st hg
    subst hP hw hK
    obtain ⟨f0, f1, f2, f3, f4, f5⟩ := hf it (by simp)
    exact wpAny_pyNext_range_end (I.ok.hd hc) st (by have : n ≤ i := hg; omega) fun h' eb => ⟨rfl, I.turned (t' := s.toks) (fun b o hb e => eb b o hb e) f0 f1 f3 f4 f5⟩
  self := fun _ _ _ _ _ st h => wpAny_pyIter_rangeiter st h
end L2

namespace L2
open PySem PySem.Spec PyProof.Rows
section
variable {X : Cx} {tg : Expr}
noncomputable def iList (K : PySem.W.Frag) (tl : TE) : TI := fun σ H R => tl σ H fun x H1 => ∃ a, x = .ref a ∧ (∃ xs, SqL K H1 a xs) ∧ R (Itl K a) H1
theorem pi_list {l : Expr} {tl : TE} (hl : PE X l tl) : PI X tg l (iList X.K tl) := by
  intro pins s σ H R I h
  refine thn (hl pins s σ H _ I h) fun v s1 ⟨x, H1, I1, r1, q1⟩ => ?_
  obtain ⟨a, e, ⟨xs, hq⟩, q⟩ := q1
  subst e
  cases r1
  obtain ⟨its, rv, p, hz⟩ := I1.list hq
  refine wpAny_pyIter_list p.isList ?_
  refine ⟨s1.heap.objs.size, [s1.heap.objs.size], _, _, H1, rfl, I1.kept (t' := s1.toks) fun b o e => Heap.get?_push_of_some _ e, turn_list a _, ⟨_, Heap.get?_push_size _ rfl, rfl, rfl⟩, fun b hb => ?_, q⟩
  have e : b = s1.heap.objs.size := by simpa using hb
  subst e
  exact I1.fpOk (Nat.le_refl _) (I1.hok.fresh (Nat.le_refl _))
/-- a range object just made, walked -/
theorem range_it {pins : List (Addr × Obj)} {σ : St} {H : Hp} {s : Shared} {R : It → Hp → Prop} {E : Value → Shared → Prop} {lo hi : Int} {t u v : Tok} {tk : Nat} (I : Inv X pins σ H s) (h1 : -(2 ^ 62) ≤ lo) (h2 : lo < 2 ^ 62) (h3 : -(2 ^ 62) ≤ hi) (h4 : hi < 2 ^ 62)
    (q : R (Itr lo (hi - lo).toNat) H) : wpAny (model X.prog X.w) X.A (pyIter (.ref s.heap.objs.size)) (PIE X pins σ tg R) E { s with heap := s.heap.push { cls := .type "range", data := .fields #[.int lo t, .int hi u, .int 1 v] }, toks := tk } := by
  refine wpAny_pyIter_range (IsRange.new ..) (small_one h1 h2 h3 h4) ?_
  have I1 : Inv X pins σ H { s with heap := s.heap.push { cls := .type "range", data := .fields #[.int lo t, .int hi u, .int 1 v] }, toks := tk } := I.kept fun b o e => Heap.get?_push_of_some _ e
  refine ⟨(s.heap.push { cls := .type "range", data := .fields #[.int lo t, .int hi u, .int 1 v] }).objs.size, [(s.heap.push { cls := .type "range", data := .fields #[.int lo t, .int hi u, .int 1 v] }).objs.size], _, _, H, rfl,
    I1.kept (t' := tk) fun b o e => Heap.get?_push_of_some _ e, turn_range _ lo (hi - lo).toNat, ?_, fun b hb => ?_, q⟩
  · have e1 : lo + ((0 : Nat) : Int) * 1 = lo := by simp
    have e2 : (((hi - lo).toNat : Nat) : Int) - ((0 : Nat) : Int) = Builtin.Range.rangeSize lo hi 1 := by rw [rangeSize_one]; split <;> omega
    show IsRangeIter _ _ (lo + ((0 : Nat) : Int) * 1) ((((hi - lo).toNat : Nat) : Int) - ((0 : Nat) : Int)) 1
    rw [e1, e2]
    exact Heap.get?_push_size _ rfl
  · have e : b = (s.heap.push { cls := .type "range", data := .fields #[.int lo t, .int hi u, .int 1 v] }).objs.size := by simpa using hb
    subst e
    exact I1.fpOk (Nat.le_refl _) (I1.hok.fresh (Nat.le_refl _))
noncomputable def iRng1 (ta : TA) : TI := fun σ H R => ta σ H fun vs H1 => ∃ j : Int, vs = [.int j] ∧ -(2 ^ 62) ≤ j ∧ j < 2 ^ 62 ∧ R (Itr 0 j.toNat) H1
noncomputable def iRng2 (ta : TA) : TI := fun σ H R => ta σ H fun vs H1 => ∃ i j : Int, vs = [.int i, .int j] ∧ (-(2 ^ 62) ≤ i ∧ i < 2 ^ 62 ∧ -(2 ^ 62) ≤ j ∧ j < 2 ^ 62) ∧ R (Itr i (j - i).toNat) H1
theorem pi_range1 {a : Expr} {ta : TA} {p pos : Pos} (hg : Gl X "range") (hm : X.mg "range" = none) (ha : PA X [a] ta) (hs : starEach [a] X.env = [(false, eval a X.env)] := by rfl) : PI X tg (.Call (.Name "range" p) [a] [] pos) (iRng1 ta) := by
  intro pins s σ H R I h
  refine Call_ (ld_blt I hg hm boot_range (PyProof.Rows.callWith_type1 (thn (ha pos pins s σ H _ I h) fun us s1 ⟨vs, H1, I1, r1, q1⟩ => ?_) hs rfl))
  obtain ⟨j, e, q1, q2, q⟩ := q1
  subst e
  cases r1 with
  | cons r rr =>
    cases rr
    obtain ⟨t, rfl⟩ := r
    exact call_range_1 (range_it I1 (by omega) (by omega) q1 q2 (by simpa using q))
theorem pi_range2 {a b : Expr} {ta : TA} {p pos : Pos} (hg : Gl X "range") (hm : X.mg "range" = none) (ha : PA X [a, b] ta) (hs : starEach [a, b] X.env = [(false, eval a X.env), (false, eval b X.env)] := by rfl) (hs2 : starEach [b] X.env = [(false, eval b X.env)] := by rfl) :
    PI X tg (.Call (.Name "range" p) [a, b] [] pos) (iRng2 ta) := by
  intro pins s σ H R I h
  refine Call_ (ld_blt I hg hm boot_range (PyProof.Rows.callWith_type1 (thn (ha pos pins s σ H _ I h) fun us s1 ⟨vs, H1, I1, r1, q1⟩ => ?_) (by rw [hs, hs2]) (by rw [hs2]; rfl)))
  obtain ⟨i, j, e, ⟨q1, q2, q3, q4⟩, q⟩ := q1
  subst e
  cases r1 with
  | cons r rr =>
    cases rr with
    | cons r' rr =>
      cases rr
      obtain ⟨t, rfl⟩ := r
      obtain ⟨t', rfl⟩ := r'
      exact call_range_2 (range_it I1 q1 q2 q3 q4 q)

/-! ### for -/
/-- W: the invariant by the turn and a measure; N: what the body is to reach -/
noncomputable def tFor (wi : TI) (g : TG) (tb : TS) : TS := fun D σ H => wi σ H fun J H1 => ∃ W : Nat → Nat → St → Hp → Prop, (∃ m, W 0 m σ H1) ∧ ∀ i m σ H, W i m σ H →
  (J.stop i H ∧ D.nx σ H) ∨ (J.go i H ∧ ∃ N : St → Hp → Prop, (∀ σ' H', N σ' H' → ∃ m', m' < m ∧ W (i + 1) m' σ' H') ∧ ∀ x H', J.yld i H x H' → g x σ H' fun σ2 H2 => tb { D with nx := N, ct := N, bk := D.nx } σ2 H2)
/-- the records at fp as they stand -/
noncomputable def pinsAt (fp : List Addr) (h : Heap) : List (Addr × Obj) := fp.filterMap fun b => (h.get? b).map fun o => (b, o)
theorem mem_pinsAt {fp : List Addr} {h : Heap} {b : Addr} {o : Obj} (hb : b ∈ fp) (e : h.get? b = some o) : (b, o) ∈ pinsAt fp h := List.mem_filterMap.mpr ⟨b, hb, by rw [e]; rfl⟩
theorem of_pinsAt {fp : List Addr} {h : Heap} {p : Addr × Obj} (hp : p ∈ pinsAt fp h) : p.1 ∈ fp ∧ h.get? p.1 = some p.2 := by
  obtain ⟨b, hb, e⟩ := List.mem_filterMap.mp hp
  cases q : h.get? b with
  | none => rw [q] at e; cases e
  | some o =>
    rw [q] at e
    have e' : (b, o) = p := Option.some.inj e
    subst e'
    exact ⟨hb, q⟩
theorem Inv.pinned {pins : List (Addr × Obj)} {σ : St} {H : Hp} {s : Shared} {fp : List Addr} (I : Inv X pins σ H s) (hf : ∀ b ∈ fp, FpOk X pins H b) (ho : ∀ b ∈ fp, ∃ o, s.heap.get? b = some o ∧ ∀ v, o.data ≠ .cell v) : Inv X (pins ++ pinsAt fp s.heap) σ H s :=
  I.pins_of fun p hp => (List.mem_append.mp hp).elim (fun z => I.pin p (List.mem_append_right _ z)) fun z => by
    obtain ⟨hb, e⟩ := of_pinsAt z
    obtain ⟨f0, f1, f2, _⟩ := hf p.1 hb
    obtain ⟨o, e', d⟩ := ho p.1 hb
    rw [e] at e'; cases e'
    exact ⟨e, f0, f1, f2, d⟩
theorem Inv.unpinned {pins pl : List (Addr × Obj)} {σ : St} {H : Hp} {s : Shared} (I : Inv X (pins ++ pl) σ H s) : Inv X pins σ H s := I.pins_of fun p hp => I.pin p (List.mem_append_right _ (List.mem_append_left _ hp))
theorem ps_for {iter : Expr} {body : List Stmt} {wi : TI} {g : TG} {tb : TS} {pos : Pos} (hp : PassesOwn (model X.prog X.w) X.A X.env X.xe) (hc : X.calm = true) (hi : PI X tg iter wi) (hg : PG X tg g) (hb : PSs X body tb)
    (hs : ∀ x, foldedSetIterable iter X.env x = pure x := by intro _; rfl) : PS X (.For tg iter body [] pos) (tFor wi g tb) := by
  intro pins s σ H D I h
  refine wpAny_For (thn (hi pins s σ H _ I h) fun v s1 h1 => thn h1 fun itv s2 h2 => ?_) hs
  obtain ⟨it, fp, tn, J, H2, e, I2, T, st2, f2, W, ⟨m0, w0⟩, turn⟩ := h2
  subst e
  -- what stays true of the iterator's objects through the loop
  have stat : ∀ {H' : Hp}, (∀ b ∈ fp, H' b = none) → ∀ b ∈ fp, FpOk X pins H' b := fun hn b hb => ⟨hn b hb, (f2 b hb).2⟩
  refine codeAny_forLoop_any (fun n s' => ∃ i σ' H', Inv X pins σ' H' s' ∧ tn i s'.heap ∧ (∀ b ∈ fp, H' b = none) ∧ W i n σ' H') ?_ m0 ⟨0, σ, H2, I2, st2, fun b hb => (f2 b hb).1, w0⟩
  rintro n s3 ⟨i, σ3, H3, I3, st3, fr3, w3⟩
  rcases turn i n σ3 H3 w3 with ⟨stop, qn⟩ | ⟨go, N, hN, step⟩
  · refine wpAny_passesOwn hp (thn (T.done X rfl rfl rfl hc i pins s3 σ3 H3 X.xe I3 (stat fr3) st3 stop) fun r s4 ⟨hr, I4⟩ => ?_)
    subst hr
    exact wpAny_execs_nil ⟨σ3, H3, I4, qn⟩
  · refine wpAny_passesOwn hp (thn (T.item X rfl rfl rfl hc i pins s3 σ3 H3 X.xe I3 (stat fr3) st3 go) fun r s4 ⟨u, hr, h4⟩ => ?_)
    subst hr
    refine wpAny_passesOwn hp (thn h4 fun _ s5 ⟨x, H5, I5, r5, y5, st5, fr5⟩ => ?_)
    have I5' := I5.pinned (stat fr5) (T.obj _ _ st5)
    refine wpAny_passesOwn hp (thn (hg _ s5 σ3 H5 x u _ I5' r5 (step x H5 y5)) fun _ s6 ⟨σ6, H6, I6, q6⟩ => ?_)
    refine wpAny_passesOwn hp (thn (hb _ s6 σ6 H6 _ I6 q6) fun f s7 q7 => ?_)
    have again : ∀ {σ7 : St} {H7 : Hp}, Inv X (pins ++ pinsAt fp s5.heap) σ7 H7 s7 → N σ7 H7 → ∃ m, m < n ∧ ∃ i σ' H', Inv X pins σ' H' s7 ∧ tn i s7.heap ∧ (∀ b ∈ fp, H' b = none) ∧ W i m σ' H' := fun {σ7 H7} I7 n7 => by
      obtain ⟨m', hm, w7⟩ := hN σ7 H7 n7
      refine ⟨m', hm, i + 1, σ7, H7, I7.unpinned, T.keep _ _ _ st5 fun b hb o e => (I7.pin (b, o) (List.mem_append_right _ (List.mem_append_right _ (mem_pinsAt hb e)))).1, fun b hb => ?_, w7⟩
      obtain ⟨o, e, d⟩ := T.obj _ _ st5 b hb
      exact (I7.pin (b, o) (List.mem_append_right _ (List.mem_append_right _ (mem_pinsAt hb e)))).2.1
    cases f with
    | next => obtain ⟨σ7, H7, I7, n7⟩ := q7; exact again I7 n7
    | cont => obtain ⟨σ7, H7, I7, n7⟩ := q7; exact again I7 n7
    | brk => obtain ⟨σ7, H7, I7, q7⟩ := q7; exact ⟨σ7, H7, I7.unpinned, q7⟩
    | ret v => obtain ⟨x7, σ7, H7, I7, r7, q7⟩ := q7; exact ⟨x7, σ7, H7, I7.unpinned, r7, q7⟩
end

theorem for_range {lo : Int} {n : Nat} {g : TG} {tb : TS} {D : Ends} {σ : St} {H : Hp} (Pv : Nat → St → Hp → Prop) (h0 : Pv 0 σ H)
    (hs : ∀ i σ H, i < n → Pv i σ H → g (.int (lo + i)) σ H fun σ2 H2 => tb { D with nx := Pv (i + 1), ct := Pv (i + 1), bk := D.nx } σ2 H2) (hd : ∀ σ H, Pv n σ H → D.nx σ H) :
    ∃ W : Nat → Nat → St → Hp → Prop, (∃ m, W 0 m σ H) ∧ ∀ i m σ H, W i m σ H →
      ((Itr lo n).stop i H ∧ D.nx σ H) ∨ ((Itr lo n).go i H ∧ ∃ N : St → Hp → Prop, (∀ σ' H', N σ' H' → ∃ m', m' < m ∧ W (i + 1) m' σ' H') ∧ ∀ x H', (Itr lo n).yld i H x H' → g x σ H' fun σ2 H2 => tb { D with nx := N, ct := N, bk := D.nx } σ2 H2) := by
  refine ⟨fun i m σ H => m = n - i ∧ i ≤ n ∧ Pv i σ H, ⟨n, by simp, Nat.zero_le _, h0⟩, ?_⟩
  rintro i m σ H ⟨rfl, hi, p⟩
  by_cases hlt : i < n
  · refine .inr ⟨hlt, Pv (i + 1), fun σ' H' p' => ⟨n - (i + 1), by omega, rfl, hlt, p'⟩, fun x H' y => ?_⟩
    obtain ⟨e, y⟩ := y
    subst e y
    exact hs i σ _ hlt p
  · have e : i = n := by omega
    subst e
    exact .inl ⟨Nat.le_refl _, hd σ H p⟩
end L2

namespace L2
open PySem PySem.Spec PyProof.Rows

noncomputable abbrev R2 := V → V → Hp → VK → Prop
/-- a two-place operation on values: f is binaryOp op, inplaceOp op or compareOp op -/
noncomputable def OpR (X : Cx) (f : Value → Value → Sem Value) (r : R2) : Prop :=
  ∀ (pins : List (Addr × Obj)) (s : Shared) (σ : St) (H : Hp) (x y : V) (v u : Value) (Q : VK), Inv X pins σ H s → RelV x v → RelV y u → r x y H Q →
    wpAny (model X.prog X.w) X.A (f v u) (EP X pins σ Q) X.xe s
/-- a one-place operation -/
noncomputable def UnR (X : Cx) (f : Value → Sem Value) (r : V → Hp → VK → Prop) : Prop :=
  ∀ (pins : List (Addr × Obj)) (s : Shared) (σ : St) (H : Hp) (x : V) (v : Value) (Q : VK), Inv X pins σ H s → RelV x v → r x H Q →
    wpAny (model X.prog X.w) X.A (f v) (EP X pins σ Q) X.xe s
/-- a call of a value that is known (a builtin, a type) with values -/
noncomputable def CallR (X : Cx) (f : Value) (r : List V → Hp → VK → Prop) : Prop :=
  ∀ (pins : List (Addr × Obj)) (s : Shared) (σ : St) (H : Hp) (xs : List V) (us : List Value) (Q : VK), Inv X pins σ H s → Vals xs us → r xs H Q →
    wpAny (model X.prog X.w) X.A (call f us) (EP X pins σ Q) X.xe s
noncomputable def tOp (r : R2) (ta tb : TE) : TE := fun σ H Q => ta σ H fun x H1 => tb σ H1 fun y H2 => r x y H2 Q
noncomputable def tUn (r : V → Hp → VK → Prop) (ta : TE) : TE := fun σ H Q => ta σ H fun x H1 => r x H1 Q
/-- ints in, under C, and a value out -/
noncomputable def rI (C : Int → Int → Prop) (g : Int → Int → V) : R2 := fun x y H Q => ∃ i j, x = .int i ∧ y = .int j ∧ C i j ∧ Q (g i j) H
noncomputable def rI0 (g : Int → Int → V) : R2 := fun x y H Q => ∃ i j, x = .int i ∧ y = .int j ∧ Q (g i j) H
noncomputable def rU (g : Int → V) : V → Hp → VK → Prop := fun x H Q => ∃ i, x = .int i ∧ Q (g i) H

section
variable {X : Cx} {a b c : Expr} {ta tb tc : TE} {pos : Pos}

theorem binT (ha : PE X a ta) (hb : PE X b tb) {pins : List (Addr × Obj)} {s : Shared} {σ : St} {H : Hp} {R : V → V → Hp → Prop} (I : Inv X pins σ H s)
    (h : ta σ H fun x H1 => tb σ H1 fun y H2 => R x y H2) {Q : Value → Shared → Prop} {f : Value → Value → Sem Value}
    (hf : ∀ v u s2 x y H2, Inv X pins σ H2 s2 → RelV x v → RelV y u → R x y H2 → wpAny (model X.prog X.w) X.A (f v u) Q X.xe s2) :
    wpAny (model X.prog X.w) X.A (eval a X.env) (fun v s₁ => wpAny (model X.prog X.w) X.A (eval b X.env) (fun u s₂ => wpAny (model X.prog X.w) X.A (f v u) Q X.xe s₂) X.xe s₁) X.xe s := by
  refine thn (ha pins s σ H _ I h) fun v s1 ⟨x, H1, I1, r1, q1⟩ => ?_
  refine thn (hb pins s1 σ H1 _ I1 q1) fun u s2 ⟨y, H2, I2, r2, q2⟩ => ?_
  exact hf v u s2 x y H2 I2 r1 r2 q2

theorem pe_op {op : Operator} {r : R2} (ho : OpR X (binaryOp op) r) (ha : PE X a ta) (hb : PE X b tb) : PE X (.BinOp a op b pos) (tOp r ta tb) := by
  intro pins s σ H Q I h
  exact wpAny_BinOp (binT ha hb I h fun v u s2 x y H2 I2 rx ry q => ho pins s2 σ H2 x y v u Q I2 rx ry q)
theorem pe_un {op : UnaryOp} {r : V → Hp → VK → Prop} (ho : UnR X (unaryOp op) r) (ha : PE X a ta) : PE X (.UnaryOp op a pos) (tUn r ta) := by
  intro pins s σ H Q I h
  exact UnaryOp_ (thn (ha pins s σ H _ I h) fun v s1 ⟨x, H1, I1, r1, q1⟩ => ho pins s1 σ H1 x v Q I1 r1 q1)
/-! ### ints -/
theorem opI {f : Value → Value → Sem Value} {C : Int → Int → Prop} {g : Int → Int → Int}
    (rule : ∀ (i j : Int) (t u : Tok) (s : Shared) (Q : Value → Shared → Prop) (E : Value → Shared → Prop), C i j → Q (.int (g i j) s.toks) { s with toks := s.toks + 1 } → wpAny (model X.prog X.w) X.A (f (.int i t) (.int j u)) Q E s) :
    OpR X f (rI C fun i j => .int (g i j)) := by
  intro pins s σ H x y v u Q I rx ry h
  obtain ⟨i, j, rfl, rfl, hc, q⟩ := h
  obtain ⟨t, rfl⟩ := rx
  obtain ⟨t', rfl⟩ := ry
  exact rule i j t t' s _ _ hc ⟨.int (g i j), H, I.tok _, ⟨_, rfl⟩, q⟩
theorem opI0 {f : Value → Value → Sem Value} {g : Int → Int → Int}
    (rule : ∀ (i j : Int) (t u : Tok) (s : Shared) (Q : Value → Shared → Prop) (E : Value → Shared → Prop), Q (.int (g i j) s.toks) { s with toks := s.toks + 1 } → wpAny (model X.prog X.w) X.A (f (.int i t) (.int j u)) Q E s) :
    OpR X f (rI0 fun i j => .int (g i j)) := by
  intro pins s σ H x y v u Q I rx ry h
  obtain ⟨i, j, rfl, rfl, q⟩ := h
  obtain ⟨t, rfl⟩ := rx
  obtain ⟨t', rfl⟩ := ry
  exact rule i j t t' s _ _ ⟨.int (g i j), H, I.tok _, ⟨_, rfl⟩, q⟩
theorem opB0 {f : Value → Value → Sem Value} {g : Int → Int → Bool}
    (rule : ∀ (i j : Int) (t u : Tok) (s : Shared) (Q : Value → Shared → Prop) (E : Value → Shared → Prop), Q (.bool (g i j)) s → wpAny (model X.prog X.w) X.A (f (.int i t) (.int j u)) Q E s) :
    OpR X f (rI0 fun i j => .bl (g i j)) := by
  intro pins s σ H x y v u Q I rx ry h
  obtain ⟨i, j, rfl, rfl, q⟩ := h
  obtain ⟨t, rfl⟩ := rx
  obtain ⟨t', rfl⟩ := ry
  exact rule i j t t' s _ _ ⟨.bl (g i j), H, I, rfl, q⟩

noncomputable def CMul (i j : Int) : Prop := (-(2 ^ 64) < i ∧ i < 2 ^ 64) ∨ (-(2 ^ 64) < j ∧ j < 2 ^ 64)
theorem CMul.ok {i j : Int} (h : CMul i j) : IntMulOk i j := by
  rcases h with ⟨h1, h2⟩ | ⟨h1, h2⟩
  · exact .of_left (intBits_le_64 h1 h2)
  · exact .of_right (intBits_le_64 h1 h2)
theorem op_add : OpR X (binaryOp .Add) (rI0 fun i j => .int (i + j)) := opI0 fun _ _ _ _ _ _ _ q => add_int q
theorem op_sub : OpR X (binaryOp .Sub) (rI0 fun i j => .int (i - j)) := opI0 fun _ _ _ _ _ _ _ q => sub_int q
theorem op_mul : OpR X (binaryOp .Mult) (rI CMul fun i j => .int (i * j)) := opI fun _ _ _ _ _ _ _ hc q => mul_int q hc.ok
/-- % by a positive divisor of any size -/
theorem op_mod : OpR X (binaryOp .Mod) (rI (fun _ j => 0 < j) fun i j => .int (i % j)) := opI fun i j _ _ _ _ _ hc q => by
  have h1 : (0 : Int) < j := hc
  exact mod_int' (by omega) (by rw [Int.fmod_eq_emod_of_nonneg i (by omega)]; exact q)
theorem unI {f : Value → Sem Value} {g : Int → Int}
    (rule : ∀ (i : Int) (t : Tok) (s : Shared) (Q : Value → Shared → Prop) (E : Value → Shared → Prop), Q (.int (g i) s.toks) { s with toks := s.toks + 1 } → wpAny (model X.prog X.w) X.A (f (.int i t)) Q E s) :
    UnR X f (rU fun i => .int (g i)) := by
  intro pins s σ H x v Q I rx h
  obtain ⟨i, rfl, q⟩ := h
  obtain ⟨t, rfl⟩ := rx
  exact rule i t s _ _ ⟨.int (g i), H, I.tok _, ⟨_, rfl⟩, q⟩
theorem un_neg : UnR X (unaryOp .USub) (rU fun i => .int (-i)) := unI fun _ _ _ _ _ q => neg_int q
end

/-! ### comparisons -/
/-- the scalars that == tells apart as data does -/
noncomputable def scal : V → V → Bool
  | .non, .non => true | .non, .int _ => true | .int _, .non => true | .non, .bl _ => true | .bl _, .non => true | .non, .str _ => true | .str _, .non => true
  | .int _, .int _ => true | .bl _, .bl _ => true | .str _, .str _ => true | .byt _, .byt _ => true
  | .int _, .str _ => true | .str _, .int _ => true | .bl _, .str _ => true | .str _, .bl _ => true
  | _, _ => false
noncomputable def rEq : R2 := fun x y H Q => scal x y = true ∧ Q (.bl (decide (x = y))) H
theorem dec_int {i j : Int} : decide (V.int i = V.int j) = (i == j) := by
  rw [Bool.eq_iff_iff]
  simp
theorem dec_bl {i j : Bool} : decide (V.bl i = V.bl j) = (i == j) := by
  rw [Bool.eq_iff_iff]
  simp
theorem dec_str {i j : Str} : decide (V.str i = V.str j) = (i == j) := by
  rw [Bool.eq_iff_iff]
  simp
theorem dec_byt {i j : Array UInt8} : decide (V.byt i = V.byt j) = (i.toList == j.toList) := by
  rw [Bool.eq_iff_iff]
  cases i
  cases j
  simp

section
variable {X : Cx} {a b c : Expr} {ta tb tc : TE} {pos : Pos}
theorem fin_bl {pins : List (Addr × Obj)} {σ : St} {H : Hp} {s : Shared} {Q : VK} {k k' : Bool} (I : Inv X pins σ H s) (q : Q (.bl k) H) (e : k = k') : EP X pins σ Q (.bool k') s := by
  subst e
  exact ⟨.bl k, H, I, rfl, q⟩
theorem op_eq : OpR X (compareOp .Eq) rEq := by
  intro pins s σ H x y v u Q I rx ry h
  obtain ⟨hs, q⟩ := h
  cases x with
  | non =>
    cases rx
    cases y with
    | non => cases ry; exact PySem.EqNone.eq_none_none (fin_bl I q (by simp))
    | bl j => cases ry; exact PySem.EqNone.eq_none_bool (fin_bl I q (by simp))
    | int j => obtain ⟨t', rfl⟩ := ry; exact PySem.EqNone.eq_none_int (fin_bl I q (by simp))
    | str j => obtain ⟨t', rfl⟩ := ry; exact PySem.EqNone.eq_none_str (fin_bl I q (by simp))
    | _ => exact absurd (show false = true from hs) Bool.false_ne_true
  | bl i =>
    cases rx
    cases y with
    | non => cases ry; exact PySem.EqNone.eq_bool_none (fin_bl I q (by simp))
    | bl j => cases ry; exact eq_bool (fin_bl I q dec_bl)
    | str j => obtain ⟨t', rfl⟩ := ry; exact PySem.EqMixed.eq_bool_str (fin_bl I q (by simp))
    | _ => exact absurd (show false = true from hs) Bool.false_ne_true
  | int i =>
    obtain ⟨t, rfl⟩ := rx
    cases y with
    | non => cases ry; exact PySem.EqNone.eq_int_none (fin_bl I q (by simp))
    | int j => obtain ⟨t', rfl⟩ := ry; exact eq_int (fin_bl I q dec_int)
    | str j => obtain ⟨t', rfl⟩ := ry; exact PySem.EqMixed.eq_int_str (fin_bl I q (by simp))
    | _ => exact absurd (show false = true from hs) Bool.false_ne_true
  | str i =>
    obtain ⟨t, rfl⟩ := rx
    cases y with
    | non => cases ry; exact PySem.EqNone.eq_str_none (fin_bl I q (by simp))
    | bl j => cases ry; exact PySem.EqMixed.eq_str_bool (fin_bl I q (by simp))
    | int j => obtain ⟨t', rfl⟩ := ry; exact PySem.EqMixed.eq_str_int (fin_bl I q (by simp))
    | str j => obtain ⟨t', rfl⟩ := ry; exact eq_str (fin_bl I q dec_str)
    | _ => exact absurd (show false = true from hs) Bool.false_ne_true
  | byt i =>
    obtain ⟨t, rfl⟩ := rx
    cases y with
    | byt j => obtain ⟨t', rfl⟩ := ry; exact PySem.W.eq_bytes (fin_bl I q dec_byt)
    | _ => exact absurd (show false = true from hs) Bool.false_ne_true
  | _ => cases y <;> exact absurd (show false = true from hs) Bool.false_ne_true
theorem op_lt : OpR X (compareOp .Lt) (rI0 fun i j => .bl (decide (i < j))) := opB0 fun _ _ _ _ _ _ _ q => lt_int q
theorem op_le : OpR X (compareOp .LtE) (rI0 fun i j => .bl (decide (i ≤ j))) := opB0 fun _ _ _ _ _ _ _ q => le_int q
theorem op_gt : OpR X (compareOp .Gt) (rI0 fun i j => .bl (decide (j < i))) := opB0 fun _ _ _ _ _ _ _ q => gt_int q
/-- is None, is not None: the right side a value none -/
theorem op_isN : OpR X (compareOp .Is) (fun x y H Q => y = .non ∧ Q (.bl (decide (x = .non))) H) := by
  intro pins s σ H x y v u Q I rx ry h
  obtain ⟨rfl, q⟩ := h
  cases ry
  refine is_none_gen (fin_bl I q ?_)
  cases x <;> first
    | (cases rx; rfl)
    | (obtain ⟨t, rfl⟩ := rx; rfl)
/-- two rules for one operation: by cases -/
theorem OpR.or {f : Value → Value → Sem Value} {r r' : R2} (h : OpR X f r) (h' : OpR X f r') : OpR X f (fun x y H Q => r x y H Q ∨ r' x y H Q) := by
  intro pins s σ H x y v u Q I rx ry q
  rcases q with q | q
  · exact h pins s σ H x y v u Q I rx ry q
  · exact h' pins s σ H x y v u Q I rx ry q

theorem nomark (b : Expr) {op : CmpOp} (h : op ≠ .In := by decide) (h2 : op ≠ .NotIn := by decide) : behindInMarks op b = false := by
  have e1 : (op == CmpOp.In) = false := by cases op <;> first | rfl | exact absurd rfl h
  have e2 : (op == CmpOp.NotIn) = false := by cases op <;> first | rfl | exact absurd rfl h2
  cases b <;> simp [behindInMarks, e1, e2]
/-- a comparison as a value; hm: nomark b, or (for in, not in) by with_unfolding_all rfl -/
theorem pe_cmpR {op : CmpOp} {r : R2} (ho : OpR X (compareOp op) r) (ha : PE X a ta) (hb : PE X b tb) (hm : behindInMarks op b = false) : PE X (.Compare a [op] [b] pos) (tOp r ta tb) := by
  intro pins s σ H Q I h
  exact wpAny_Compare1 (binT ha hb I h fun v u s2 x y H2 I2 rx ry q => ho pins s2 σ H2 x y v u Q I2 rx ry q) hm
/-- a reading of a value as a test -/
noncomputable def tTest (t : TE) : TT := fun σ H Q => t σ H fun x H' => ∃ k, x = .bl k ∧ Q k H'
theorem pt_cmpR {op : CmpOp} {r : R2} (ho : OpR X (compareOp op) r) (ha : PE X a ta) (hb : PE X b tb) (hm : behindInMarks op b = false) : PT X (.Compare a [op] [b] pos) (tTest (tOp r ta tb)) := by
  intro pins s σ H Q I h
  refine wpAny_isTrue_Compare1 (thn (ha pins s σ H _ I h) fun v s1 ⟨x, H1, I1, r1, q1⟩ => thn (hb pins s1 σ H1 _ I1 q1) fun u s2 ⟨y, H2, I2, r2, q2⟩ =>
    thn (ho pins s2 σ H2 x y v u _ I2 r1 r2 q2) fun c s3 ⟨z, H3, I3, r3, k, e, q3⟩ => ?_) hm
  subst e
  cases r3
  exact wpAny_truthy_bool ⟨H3, I3, q3⟩
theorem line63 : (sizeLine : Nat) < 2 ^ 63 := by rw [sizeLine_eq]; decide
/-! ### scalar builtins, by CallR -/
theorem vals1 {x : V} {us : List Value} (r : Vals [x] us) : ∃ u, us = [u] ∧ RelV x u := by
  cases r with
  | cons r1 r2 => cases r2; exact ⟨_, rfl, r1⟩
theorem vals2 {x y : V} {us : List Value} (r : Vals [x, y] us) : ∃ u w', us = [u, w'] ∧ RelV x u ∧ RelV y w' := by
  cases r with
  | cons r1 r2 =>
    cases r2 with
    | cons r3 r4 => cases r4; exact ⟨_, _, rfl, r1, r3⟩
theorem call_abs : CallR X (.builtin "abs") (fun xs H Q => ∃ i, xs = [.int i] ∧ Q (.int (if i < 0 then -i else i)) H) := by
  intro pins s σ H xs us Q I r h
  obtain ⟨i, rfl, q⟩ := h
  obtain ⟨u, rfl, t, rfl⟩ := vals1 r
  exact call_abs_int fun u tk => ⟨.int (if i < 0 then -i else i), H, I.tok _, ⟨_, rfl⟩, q⟩
theorem call_max2 (hc : X.calm = true) : CallR X (.builtin "max") (fun xs H Q => ∃ i j, xs = [.int i, .int j] ∧ Q (.int (if j > i then j else i)) H) := by
  intro pins s σ H xs us Q I r h
  obtain ⟨i, j, rfl, q⟩ := h
  obtain ⟨u, w', rfl, ⟨t, rfl⟩, ⟨t', rfl⟩⟩ := vals2 r
  refine max_two_ints (I.ok.hd hc) fun h' tk k => ⟨_, H, I.kept k, ?_, q⟩
  by_cases hj : j > i
  · rw [if_pos hj, if_pos hj]; exact ⟨_, rfl⟩
  · rw [if_neg hj, if_neg hj]; exact ⟨_, rfl⟩
end
end L2

namespace L2
open PySem PySem.Spec PyProof.Rows

section
variable {prog : Program} {w : World} {A : Around} {E : Value → Shared → Prop} {s : Shared} {K : PySem.W.Frag} {x dx C f : Addr} {mA : Str → Option Value} {name : Str} {v : Value}

end

section
variable {P : Program} {w : World} {H H' : Hp} {h h' : Heap} {a C dx : Addr} {fs fs' : List (Str × V)}
end

/-! ### what of the text a class must have -/
structure Cls (K : PySem.W.Frag) (C : Addr) : Prop where
  pg : PySem.W.plainGet K C Str.empty = true
  hd : PySem.W.hasDictIn K C = true
  po : PySem.W.plainOver K C = true
  sa : PySem.W.findIn K (.ref C) "__setattr__" = some (some (.builtin "object.__setattr__"))
theorem Cls.get {K : PySem.W.Frag} {C : Addr} (c : Cls K C) (f : Str) : PySem.W.plainGet K C f = true := c.pg
section
variable {X : Cx} {pins : List (Addr × Obj)} {σ : St} {H : Hp} {s : Shared} {a C dx : Addr} {fs : List (Str × V)} {f : Str} {v : V} {A : Around} {E : Value → Shared → Prop}

end

section
variable {X : Cx} {o e value : Expr} {f : Str} {pos pos' tpos : Pos} {ta tv : TE}
end

/-! ### isinstance -/
section
variable {X : Cx} {pins : List (Addr × Obj)} {σ : St} {H : Hp} {s : Shared} {A : Around} {E : Value → Shared → Prop} {Q : Value → Shared → Prop} {c : Value} {b : Bool}
end
end L2

namespace L2
open PySem PySem.Spec PyProof.Rows

/-! ### room -/
structure Room (k : Nat) (A : Around) : Prop where
  hd : A.handled = none
  dp : A.depth + 3 * k + 5 < recursionLimit
  un : A.units + 16 * k + 200 < cLine
theorem Room.mono {j k : Nat} {A : Around} (r : Room k A) (h : j ≤ k) : Room j A := ⟨r.hd, by have := r.dp; omega, by have := r.un; omega⟩
theorem Room.deeper {k : Nat} {A : Around} (r : Room (k + 1) A) (env : Env) : Room k (A.deeper env) :=
  ⟨r.hd, by have := r.dp; show A.depth + 1 + 3 * k + 5 < _; omega, by have := r.un; show A.units + 3 + 16 * k + 200 < _; omega⟩
theorem Room.depth {k : Nat} {A : Around} (r : Room k A) : A.depth < recursionLimit := by have := r.dp; omega
theorem Room.units0 {k : Nat} {A : Around} (r : Room k A) : A.units < cLine := by have := r.un; omega

/-! ### argument lists and displays -/
noncomputable def tNil : TA := fun _ H Q => Q [] H
noncomputable def tCons (ta : TE) (tr : TA) : TA := fun σ H Q => ta σ H fun x H1 => tr σ H1 fun xs H2 => Q (x :: xs) H2
section
variable {X : Cx} {e : Expr} {es : List Expr} {te : TE} {t : TA} {pos : Pos}
theorem pa_nil : PA X [] tNil := fun _ _ _ _ H Q I h => Calls.spliced_nil ⟨[], H, I, .nil, h⟩
theorem pa_cons (ha : PE X e te) (hr : PA X es t) (hs : starEach (e :: es) X.env = (false, eval e X.env) :: starEach es X.env := by rfl) : PA X (e :: es) (tCons te t) := by
  intro pos pins s σ H Q I h
  rw [hs]
  show wpAny _ _ (spliced ((false, eval e X.env) :: backTo pos (starEach es X.env))) _ _ s
  refine Calls.spliced_cons (thn (ha pins s σ H _ I h) fun u s1 ⟨x, H1, I1, r1, q1⟩ => ?_)
  exact thn (hr pos pins s1 σ H1 _ I1 q1) fun us s2 ⟨xs, H2, I2, r2, q2⟩ => ⟨x :: xs, H2, I2, .cons r1 r2, q2⟩

/-- a tuple, a list of written items -/
noncomputable def tTup (t : TA) : TE := fun σ H Q => t σ H fun xs H1 => xs.length ≤ sizeLine ∧ ∀ p, H1 p = none → Q (.ref p) (upd H1 p (.tup xs))
noncomputable def tLst (t : TA) : TE := fun σ H Q => t σ H fun xs H1 => xs.length ≤ sizeLine ∧ ∀ p, H1 p = none → Q (.ref p) (upd H1 p (.lst xs))
theorem pe_tup {x1} (h : PA X es t) : PE X (.Tuple es x1 pos) (tTup t) := by
  intro pins s σ H Q I hq
  refine wpAny_Tuple_spliced (thn (h pos pins s σ H _ I hq) fun us s1 ⟨xs, H1, I1, r, z, q⟩ => ⟨by rw [← r.length]; exact z, ?_⟩)
  have hf : H1 s1.heap.objs.size = none := I1.hok.fresh (Nat.le_refl _)
  refine ⟨.ref s1.heap.objs.size, upd H1 s1.heap.objs.size (.tup xs), I1.laid (t' := s1.toks) (fun b u e => Heap.get?_push_of_some _ e) (Nat.le_refl _) ?_, rfl, q _ hf⟩
  exact ⟨z, us, r, ⟨_, Heap.get?_push_size _ rfl, rfl, _, rfl⟩⟩
theorem pe_lst (h : PA X es t) : PE X (.List es pos) (tLst t) := by
  intro pins s σ H Q I hq
  refine wpAny_List_spliced (thn (h pos pins s σ H _ I hq) fun us s1 ⟨xs, H1, I1, r, z, q⟩ => ⟨by rw [← r.length]; exact z, ?_⟩)
  have hf : H1 s1.heap.objs.size = none := I1.hok.fresh (Nat.le_refl _)
  refine ⟨.ref s1.heap.objs.size, upd H1 s1.heap.objs.size (.lst xs), I1.laid (t' := s1.toks) (fun b u e => Heap.get?_push_of_some _ e) (Nat.le_refl _) ?_, rfl, q _ hf⟩
  exact ⟨z, us, 0, r, Heap.get?_push_size _ rfl⟩
end

/-! ### what a def promises -/
/-- a def's promise: the bound arguments in the parameters' order, the heap, the wanted end, the wanted exception -/
noncomputable abbrev Sp := List V → Hp → VK → XK → Prop
/-- how an exception lies behind a call (file 08 gives it): the callers' frames, abstract heap and state ahead of the call, the wish, the exception, the state -/
noncomputable abbrev CXT := List Env → Hp → Shared → XK → Value → Shared → Prop

/-- the state at a call -/
structure Env0 (P : Program) (w : World) (K : PySem.W.Frag) (mg : Str → Option Value) (base : Heap) (A : Around) (outer : List Env) (s : Shared) (H : Hp) : Prop where
  frames : A.frames = some outer
  mod : Mod K mg base
  bs : ∀ b o, base.get? b = some o → s.heap.get? b = some o ∧ H b = none
  bsz : base.objs.size ≤ s.heap.objs.size
  funs : s.heap.FunFrames base outer
  frf : ∀ b ∈ frs outer, H b = none
  hok : HOk P w H s.heap
  bare : AllBare s.gens
/-- a call's end -/
noncomputable def CE (outer : List Env) (P : Program) (w : World) (H : Hp) (s : Shared) (Q : VK) (u : Value) (s' : Shared) : Prop :=
  ∃ v H', s'.os = s.os ∧ AllBare s'.gens ∧ Un (frs outer) [] H H' s.heap s'.heap ∧ HOk P w H' s'.heap ∧ RelV v u ∧ Q v H'
noncomputable def CR (CX : CXT) (outer : List Env) (P : Program) (w : World) (H : Hp) (s : Shared) (Q : VK) (E : XK) (r : Result) (s' : Shared) : Prop :=
  match r with
  | .ok (.ret u) => CE outer P w H s Q u s'
  | .ok _ => False
  | .error e => CX outer H s E e s'
structure FnOk (P : Program) (w : World) (K : PySem.W.Frag) (mg : Str → Option Value) (base : Heap) (CX : CXT) (k : Nat) (f : Addr) (fd : FuncData) (ps : List Str) (sp : Sp) : Prop where
  len : ∀ vs H Q E, sp vs H Q E → vs.length = ps.length
  run : ∀ (A : Around) (outer : List Env) (s : Shared) (H : Hp) (args : Args) (us : List Value) (vs : List V) (Q : VK) (E : XK), Room k A → Env0 P w K mg base A outer s H → BindsTo s fd args (ps.zip us) → Vals vs us → sp vs H Q E →
    codeAny (model P w) A (.call (.ref f) args) (CR CX outer P w H s Q E) s
theorem FnOk.mono {P : Program} {w : World} {K : PySem.W.Frag} {mg : Str → Option Value} {base : Heap} {CX : CXT} {j k : Nat} {f : Addr} {fd : FuncData} {ps : List Str} {sp : Sp} (F : FnOk P w K mg base CX j f fd ps sp) (h : j ≤ k) :
    FnOk P w K mg base CX k f fd ps sp := ⟨F.len, fun A outer s H args us vs Q E hr => F.run A outer s H args us vs Q E (hr.mono h)⟩
/-- a weaker promise -/
theorem FnOk.imp {P : Program} {w : World} {K : PySem.W.Frag} {mg : Str → Option Value} {base : Heap} {CX : CXT} {k : Nat} {f : Addr} {fd : FuncData} {ps : List Str} {sp sp' : Sp} (F : FnOk P w K mg base CX k f fd ps sp)
    (h : ∀ vs H Q E, sp' vs H Q E → sp vs H Q E) : FnOk P w K mg base CX k f fd ps sp' :=
  ⟨fun vs H Q E q => F.len vs H Q E (h _ _ _ _ q), fun A outer s H args us vs Q E hr he hb hv hs => F.run A outer s H args us vs Q E hr he hb hv (h _ _ _ _ hs)⟩

section
variable {X : Cx} {pins : List (Addr × Obj)} {σ : St} {H : Hp} {s s' : Shared}
/-- from a body: what a callee wants -/
theorem Inv.env0 (I : Inv X pins σ H s) : Env0 X.prog X.w X.K X.mg X.base X.A X.stack s H :=
  ⟨I.ok.frames, I.ok.mod, I.bs, Nat.le_trans I.ok.bsz I.sz, I.stack, I.stkFree, I.hok, I.bare⟩
/-- behind a call -/
theorem Inv.after {Q : VK} {u : Value} (I : Inv X pins σ H s) (h : CE X.stack X.prog X.w H s Q u s') : EP X pins σ Q u s' := by
  obtain ⟨v, H', os, bare, un, hok, r, q⟩ := h
  obtain ⟨hh, g, d, t, os'⟩ := s'
  obtain rfl : os' = s.os := os
  exact ⟨v, H', I.call (h' := hh) (g' := g) (d' := d) (t' := t) (ch := []) un hok bare (fun b z => absurd z (by simp)), r, q⟩
end

/-! ### calls -/
/-- f(..): the written arguments, then the defaults dvs; E: what is wanted of an exception -/
noncomputable def tCall (sp : Sp) (dvs : List V) (E : XK) (t : TA) : TE := fun σ H Q => t σ H fun vs H1 => sp (vs ++ dvs) H1 Q E
/-- how the parameters are bound: us the positional arguments, kw the keywords' values by name, ds the defaults that fill up -/
noncomputable def Binds (K : PySem.W.Frag) (fd : FuncData) (ps : List Str) (ds : List Value) : Prop :=
  ∀ (s : Shared) (us : List Value), K.In s.heap → (us ++ ds).length = ps.length → BindsTo s fd ⟨us, []⟩ (ps.zip (us ++ ds))
/-- every parameter is given -/
theorem Binds.all {K : PySem.W.Frag} {fd : FuncData} {ps : List Str} (h : ∀ us : List Value, us.length = ps.length → bindArgs fd ⟨us, []⟩ = pure (ps.zip us)) : Binds K fd ps [] := fun s us _ hl => by
  rw [List.append_nil] at hl ⊢
  exact .of_eq (h us hl)

/-- an exception of a callee reaches what this body wants of exceptions -/
noncomputable def Passes (CX : CXT) (X : Cx) (E : XK) : Prop := ∀ (pins : List (Addr × Obj)) (σ : St) (H : Hp) (s : Shared) (e : Value) (s' : Shared), Inv X pins σ H s → CX X.stack H s E e s' → X.xe e s'

section
variable {X : Cx} {CX : CXT} {k : Nat} {f C : Addr} {fd : FuncData} {ps : List Str} {sp : Sp} {dvs : List V} {ds : List Value} {E : XK} {x m : Str} {p pos apos : Pos} {e o : Expr} {es : List Expr} {ta : TE} {t : TA}

/-- the callee runs -/
theorem run_fn {pins : List (Addr × Obj)} {σ : St} {H : Hp} {s : Shared} {Q : VK} {us : List Value} {vs : List V} (F : FnOk X.prog X.w X.K X.mg X.base CX k f fd ps sp) (hr : Room k X.A) (hb : Binds X.K fd ps ds) (hd : Vals dvs ds) (hx : Passes CX X E)
    (I : Inv X pins σ H s) (r : Vals vs us) (h : sp (vs ++ dvs) H Q E) : wpAny (model X.prog X.w) X.A (call (.ref f) us) (EP X pins σ Q) X.xe s := by
  have r2 : Vals (vs ++ dvs) (us ++ ds) := r.append hd
  have hl : (us ++ ds).length = ps.length := by rw [← r2.length]; exact F.len _ _ _ _ h
  refine wpAny_call (codeAny_mono (F.run X.A X.stack s H ⟨us, []⟩ (us ++ ds) (vs ++ dvs) Q E hr I.env0 (hb s us I.kIn hl) r2 h) fun r s' hq => ?_)
  cases r with
  | error e => exact hx pins σ H s e s' I hq
  | ok fl =>
    cases fl with
    | ret u => exact I.after hq
    | next => exact False.elim hq
    | brk => exact False.elim hq
    | cont => exact False.elim hq

theorem pe_call (F : FnOk X.prog X.w X.K X.mg X.base CX k f fd ps sp) (hr : Room k X.A) (hg : Gl X x) (hm : X.mg x = some (.ref f)) (hk : PySem.W.keepIn X.K (.ref f) = true) (hb : Binds X.K fd ps ds) (hd : Vals dvs ds) (hx : Passes CX X E)
    (ha : PA X (e :: es) t) (hdb : (x == ("__debug__" : Str)) = false := by decide) (he : starEach (e :: es) X.env = (false, eval e X.env) :: starEach es X.env := by rfl) (hpl : (backTo pos (starEach es X.env)).any (·.1) = false := by rfl) :
    PE X (.Call (.Name x p) (e :: es) [] pos) (tCall sp dvs E t) := by
  intro pins s σ H Q I h
  refine wpAny_Call_Name_kw (ld_glob I hg hm ?_ hdb)
  refine PySem.W.callWith_K (h₀ := X.base) I.ok.mod.kin hk (thn (ha pos pins s σ H _ I h) fun us s1 ⟨vs, H1, I1, r, q⟩ => ⟨I1.kIn, ?_⟩) he hpl
  exact run_fn F hr hb hd hx I1 r q
end

section
variable {X : Cx} {CX : CXT} {k : Nat} {f C : Addr} {fd : FuncData} {ps ks : List Str} {sp : Sp} {E : XK} {x m : Str} {p pos apos kpos : Pos} {e o : Expr} {es : List Expr} {kws : List Keyword} {te ta : TE} {t tk : TA} {nm : Option Str}
variable {g : List Value → List Value → List Value} {gV : List V → List V → List V}
end

/-! ### a def's body keeps its promise -/
/-- names: the parameters first -/
structure FnScope (N P : List Str) (sc : Scope) : Prop where
  kind : sc.kind = .function
  co : sc.isCoroutine = false
  gen : sc.isGenerator = false
  nd : N.Nodup
  pre : N.take P.length = P
  par : ∀ x ∈ P, sc.names.lookup x = some .local ∨ sc.names.lookup x = some .cell
  nofree : ∀ y ∈ sc.names, y.2 ≠ .free

theorem bindL_out {kindOf : Str → Option NameKind} {x : Str} : ∀ {binds : List (Str × Value)} {m : Str → Option Value}, (∀ v, (x, v) ∉ binds) → bindL kindOf binds m x = m x
  | [], _, _ => rfl
  | (n, v) :: r, m, h => by
    unfold bindL
    rw [bindL_out fun w hw => h w (List.mem_cons_of_mem _ hw)]
    split
    · have : x ≠ n := by rintro rfl; exact h v List.mem_cons_self
      simp [this]
    · rfl
theorem bindC_out {kindOf : Str → Option NameKind} {x : Str} : ∀ {binds : List (Str × Value)} {m : Str → Option Value}, (∀ v, (x, v) ∉ binds) → bindC kindOf binds m x = m x
  | [], _, _ => rfl
  | (n, v) :: r, m, h => by
    unfold bindC
    rw [bindC_out fun w hw => h w (List.mem_cons_of_mem _ hw)]
    split
    · rfl
    · have : x ≠ n := by rintro rfl; exact h v List.mem_cons_self
      simp [this]
theorem bindL_get {kindOf : Str → Option NameKind} {x : Str} {v : Value} : ∀ {P : List Str} {vs : List Value} {i : Nat} {m : Str → Option Value}, P.Nodup → P[i]? = some x → vs[i]? = some v → kindOf x = some .local →
    bindL kindOf (P.zip vs) m x = some v
  | [], _, _, _, _, h, _, _ => by simp at h
  | _ :: _, [], _, _, _, _, h, _ => by simp at h
  | p :: P, w :: vs, 0, m, nd, h1, h2, hk => by
    simp at h1 h2; subst h1; subst h2
    show bindL kindOf ((p, w) :: P.zip vs) m p = _
    unfold bindL
    rw [bindL_out fun v hv => (List.nodup_cons.mp nd).1 (List.of_mem_zip hv).1, if_pos hk]
    simp
  | p :: P, w :: vs, i + 1, m, nd, h1, h2, hk => by
    show bindL kindOf ((p, w) :: P.zip vs) m x = _
    unfold bindL
    exact bindL_get (i := i) (List.nodup_cons.mp nd).2 (by simpa using h1) (by simpa using h2) hk
theorem bindC_get {kindOf : Str → Option NameKind} {x : Str} {v : Value} : ∀ {P : List Str} {vs : List Value} {i : Nat} {m : Str → Option Value}, P.Nodup → P[i]? = some x → vs[i]? = some v → kindOf x ≠ some .local →
    bindC kindOf (P.zip vs) m x = some v
  | [], _, _, _, _, h, _, _ => by simp at h
  | _ :: _, [], _, _, _, _, h, _ => by simp at h
  | p :: P, w :: vs, 0, m, nd, h1, h2, hk => by
    simp at h1 h2; subst h1; subst h2
    show bindC kindOf ((p, w) :: P.zip vs) m p = _
    unfold bindC
    rw [bindC_out fun v hv => (List.nodup_cons.mp nd).1 (List.of_mem_zip hv).1, if_neg hk]
    simp
  | p :: P, w :: vs, i + 1, m, nd, h1, h2, hk => by
    show bindC kindOf ((p, w) :: P.zip vs) m x = _
    unfold bindC
    exact bindC_get (i := i) (List.nodup_cons.mp nd).2 (by simpa using h1) (by simpa using h2) hk

/-- the names' values at the entry -/
noncomputable def start (N : List Str) (vs : List V) : St := vs.map some ++ List.replicate (N.length - vs.length) none

/-- the context of a def's body, at its entry; an exception leaves the frame, then lies as CX says -/
noncomputable def cxOf (CX : CXT) (P : Program) (w : World) (K : PySem.W.Frag) (mg : Str → Option Value) (base : Heap) (N : List Str) (qual : Str) (scope : Scope) (f : Addr) (cd : Value) (A : Around) (outer : List Env) (s : Shared) (H : Hp) (E : XK) : Cx where
  prog := P
  w := w
  K := K
  mg := mg
  base := base
  A := A.deeper (envOfC qual scope s.heap.objs.size f cd)
  N := N
  s₀ := s
  H₀ := H
  env := envOfC qual scope s.heap.objs.size f cd
  outer := outer
  stack := envOfC qual scope s.heap.objs.size f cd :: outer
  ex := []
  calm := true
  fn := fun _ => true
  pn := []
  xe := fun e s' => wpAny (model P w) (A.deeper (envOfC qual scope s.heap.objs.size f cd)) (leaving (envOfC qual scope s.heap.objs.size f cd) e) (fun _ s'' => CX outer H s E e s'') (fun e' s'' => CX outer H s E e' s'') s'

theorem cell_has {sc : Scope} {n : Nat} {x : Str} (h : sc.names.lookup x = some .cell) : ∃ c, (cellsFrom n sc.names []).lookup x = some c := by
  have q := PySem.W.cellsFrom_some sc.names n [] (.inl h)
  exact Option.isSome_iff_exists.mp q

theorem inv_start {CX : CXT} {P : Program} {w : World} {K : PySem.W.Frag} {mg : Str → Option Value} {base : Heap} {N ps : List Str} {qual : Str} {scope : Scope} {f : Addr} {cd : Value} {A : Around} {outer : List Env} {s s1 : Shared} {H : Hp} {E : XK} {us : List Value} {vs : List V}
    (S : FnScope N ps scope) (hd : A.handled = none) (e0 : Env0 P w K mg base A outer s H) (hl : vs.length = ps.length) (r : Vals vs us)
    (x : InCallC s s.heap.objs.size (bindL (envOfC qual scope s.heap.objs.size f cd).kindOf (ps.zip us) fun _ => none) (cellsFrom (s.heap.objs.size + 1) scope.names []) (bindC (envOfC qual scope s.heap.objs.size f cd).kindOf (ps.zip us) fun _ => none) s1) :
    Inv (cxOf CX P w K mg base N qual scope f cd A outer s H E) [] (start N vs) H s1 := by
  have hpl : ps.length ≤ N.length := by have := congrArg List.length S.pre; rw [List.length_take] at this; omega
  obtain ⟨h1, tk, rfl, hk⟩ := x.done
  have noA : ∀ b : Addr, b ∉ (cxOf CX P w K mg base N qual scope f cd A outer s H E).ex := fun b z => absurd (show b ∈ ([] : List Addr) from z) (by simp)
  refine ⟨⟨e0.mod, S.kind, rfl, rfl, Nat.le_refl _, fun y z c h1 h2 => ?_, fun y hy => ?_, fun y c _ h => ?_, fun _ => hd, Around.frames_deeper e0.frames, .inr ⟨rfl, rfl⟩, fun b z => absurd z (noA b), e0.bs, e0.bsz, fun b _ _ => noA b, fun b z => absurd z (noA b), e0.funs, e0.frf⟩,
    rfl, e0.bare, Un.kept hk, ⟨_, x.toInCall.ns, fun i y v h1 h2 h3 => ?_⟩, fun y c h => ⟨_, x.cell y c h⟩, e0.hok.fresh (Nat.le_refl _), fun y c h => ?_, fun p hp => absurd (show p ∈ ([] : List (Addr × Obj)) from hp) (by simp), e0.hok.kept hk, ?_⟩
  · exact name_of_addr x.apart (PySem.mem_of_lookup h1) (PySem.mem_of_lookup h2)
  · have hy : scope.names.lookup y = some .cell ∨ scope.names.lookup y = some .free := hy
    rcases hy with hy | hy
    · exact cell_has hy
    · exact absurd rfl (S.nofree _ (PySem.mem_of_lookup hy))
  · exact Nat.le_of_lt (x.above y c (PySem.mem_of_lookup h))
  · have hi : i < vs.length := by
      unfold start at h2
      by_cases hi : i < vs.length
      · exact hi
      · rw [List.getElem?_append_right (by simpa using hi)] at h2
        rw [List.getElem?_replicate] at h2
        split at h2 <;> cases h2
    have ha : vs[i]? = some v := by
      unfold start at h2
      rw [List.getElem?_append_left (by simpa using hi), List.getElem?_map] at h2
      cases e : vs[i]? with
      | none => rw [e] at h2; cases h2
      | some a => rw [e] at h2; cases h2; rfl
    obtain ⟨u, hu, rv⟩ := r.get ha
    have hp : ps[i]? = some y := by
      rw [← S.pre, List.getElem?_take_of_lt (by omega)]; exact h1
    have ndP : ps.Nodup := by rw [← S.pre]; exact S.nd.sublist (List.take_sublist _ _)
    refine ⟨u, rv, ?_⟩
    rcases S.par y (List.mem_of_getElem? hp) with k | k
    · exact .inl ⟨k, bindL_get ndP hp hu k⟩
    · obtain ⟨c, e⟩ := cell_has (n := s.heap.objs.size + 1) k
      refine .inr ⟨.inl k, c, e, ?_⟩
      have q := x.cell y c e
      rw [bindC_get ndP hp hu (by show scope.names.lookup y ≠ _; rw [k]; decide)] at q
      exact q
  · exact e0.hok.fresh (Nat.le_of_lt (x.above y c (PySem.mem_of_lookup h)))
  · unfold start
    show _ = N.length
    rw [List.length_append, List.length_map, List.length_replicate]
    omega

/-- THE RULE: a def (or a method) of the text, by its body. The body's reading t is chosen for each entry; it is run at the parameters' values -/
theorem fn_of {CX : CXT} {P : Program} {w : World} {K : PySem.W.Frag} {mg : Str → Option Value} {base : Heap} {k : Nat} {f : Addr} {name qual : Str} {params : Arguments} {body : List Stmt} {scope : Scope} {dV kV doc pm cdv ct oc : Value} {an od : Option Addr}
    {osl : Array (Option Value)} {N ps : List Str} {sp : Sp} (lk : K.lookup f = some ⟨oc, od, .func (PySem.W.fnOf name qual params body scope dV kV doc pm an cdv ct), osl⟩) (hcd : PySem.W.codeIn K cdv qual = true) (S : FnScope N ps scope)
    (len : ∀ vs H Q E, sp vs H Q E → vs.length = ps.length)
    (hbody : ∀ (A : Around) (outer : List Env) (s : Shared) (H : Hp) (vs : List V) (Q : VK) (E : XK), Room k (A.deeper (envOfC qual scope s.heap.objs.size f cdv)) → sp vs H Q E →
      ∃ t, PSs (cxOf CX P w K mg base N qual scope f cdv A outer s H E) body t ∧ t { nx := fun _ H' => Q .non H', rt := Q } (start N vs) H) :
    FnOk P w K mg base CX (k + 1) f (PySem.W.fnOf name qual params body scope dV kV doc pm an cdv ct) ps sp := by
  refine ⟨len, fun A outer s H args us vs Q E hr e0 hb r hsp => ?_⟩
  have hl := len _ _ _ _ hsp
  have KX : K.In s.heap := e0.mod.kin.keeps fun b o e => (e0.bs b o e).1
  have lim : s.heap.NoLimit := e0.mod.nolimit.keeps fun b o e => (e0.bs b o e).1
  have hkind : ∀ y ∈ ps.zip us, scope.names.lookup y.1 = some .local ∨ (scope.names.lookup y.1 = some .cell ∧ ((cellsFrom (s.heap.objs.size + 1) scope.names []).lookup y.1).isSome = true) := fun ⟨n, v⟩ hy => by
    rcases S.par n (List.of_mem_zip hy).1 with q | q
    · exact .inl q
    · exact .inr ⟨q, PySem.W.cellsFrom_some _ _ _ (.inl q)⟩
  refine codeAny_call_function hr.depth (KX _ _ lk) rfl S.co S.gen rfl (PySem.W.codeRec_of KX hcd) (hb _ _ _ _ ?_)
  refine wpAny_newFunctionEnv_cells S.kind hkind fun env he s1 x => ?_
  subst he
  refine ⟨lim.keeps x.toInCall.keep, codeAny_func ?_⟩
  obtain ⟨t, ht, hq⟩ := hbody A outer s H vs Q E (hr.deeper _) hsp
  have I : Inv (cxOf CX P w K mg base N qual scope f cdv A outer s H E) [] (start N vs) H s1 := inv_start S hr.hd e0 hl r x
  refine wpAny_mono (ht [] s1 (start N vs) H _ I hq) (fun fl s' hs => ?_) fun e s' hs => hs
  have fin : ∀ {σ' : St} {H' : Hp} {v : V} {u : Value}, Inv (cxOf CX P w K mg base N qual scope f cdv A outer s H E) [] σ' H' s' → RelV v u → Q v H' → CE outer P w H s Q u s' :=
    fun {σ' H' v u} J rv q => ⟨v, H', J.os, J.bare, J.base, J.hok, rv, q⟩
  cases fl with
  | ret u =>
    obtain ⟨v, σ', H', J, rv, q⟩ := hs
    exact fin J rv q
  | next =>
    obtain ⟨σ', H', J, q⟩ := hs
    exact fin (v := V.non) (u := Value.none) J rfl q
  | brk =>
    obtain ⟨_, _, _, q⟩ := hs
    exact False.elim q
  | cont =>
    obtain ⟨_, _, _, q⟩ := hs
    exact False.elim q
end L2

namespace L2
open PySem PySem.Spec PyProof.Rows
section
variable {X : Cx} {x : Str} {p pos : Pos} {e : Expr} {es : List Expr} {t : TA} {id T : String} {r : List V → Hp → VK → Prop}

noncomputable def tCB (r : List V → Hp → VK → Prop) (t : TA) : TE := fun σ H Q => t σ H fun vs H1 => r vs H1 Q
/-- f(e, ..), f a built-in function -/
theorem pe_callB (hc : CallR X (.builtin id) r) (hg : Gl X x) (hm : X.mg x = none) (hv : bootBuiltins x = some (.builtin id)) (ha : PA X (e :: es) t) (hn : x ≠ "__name__" := by decide) (hdb : (x == ("__debug__" : Str)) = false := by decide)
    (he : starEach (e :: es) X.env = (false, eval e X.env) :: starEach es X.env := by rfl) (hpl : (backTo pos (starEach es X.env)).any (·.1) = false := by rfl) : PE X (.Call (.Name x p) (e :: es) [] pos) (tCB r t) := by
  intro pins s σ H Q I h
  refine wpAny_Call_Name_kw (ld_blt I hg hm hv ?_ hn hdb)
  exact PyProof.Rows.callWith_builtin1 (thn (ha pos pins s σ H _ I h) fun us s1 ⟨vs, H1, I1, r1, q1⟩ => hc pins s1 σ H1 vs us Q I1 r1 q1) he hpl
/-- T(e, ..), T a built-in type -/
theorem pe_callTy (hc : CallR X (.type T) r) (hg : Gl X x) (hm : X.mg x = none) (hv : bootBuiltins x = some (.type T)) (ha : PA X (e :: es) t) (hn : x ≠ "__name__" := by decide) (hdb : (x == ("__debug__" : Str)) = false := by decide)
    (he : starEach (e :: es) X.env = (false, eval e X.env) :: starEach es X.env := by rfl) (hpl : (backTo pos (starEach es X.env)).any (·.1) = false := by rfl) : PE X (.Call (.Name x p) (e :: es) [] pos) (tCB r t) := by
  intro pins s σ H Q I h
  refine wpAny_Call_Name_kw (ld_blt I hg hm hv ?_ hn hdb)
  exact PyProof.Rows.callWith_type1 (thn (ha pos pins s σ H _ I h) fun us s1 ⟨vs, H1, I1, r1, q1⟩ => hc pins s1 σ H1 vs us Q I1 r1 q1) he hpl
end
end L2

namespace HT
open PySem PyProof.Rows

/-- t < u of tuples of ints -/
noncomputable def lexLt : List Int → List Int → Bool
  | [], [] => false
  | [], _ :: _ => true
  | _ :: _, [] => false
  | x :: xs, y :: ys => if x = y then lexLt xs ys else decide (x < y)
theorem lexLt_cons (x y : Int) (xs ys : List Int) : lexLt (x :: xs) (y :: ys) = if x = y then lexLt xs ys else decide (x < y) := rfl
theorem lexLt_nil_nil : lexLt [] [] = false := rfl
theorem lexLt_nil_cons (y : Int) (ys : List Int) : lexLt [] (y :: ys) = true := rfl
theorem lexLt_cons_nil (x : Int) (xs : List Int) : lexLt (x :: xs) [] = false := rfl

theorem eqAt_int (A : Around) (s : Shared) (a : Int) (t : Tok) (c : Int) (u : Tok) : ∃ e, SeqAt.EqAt A s (.int a t) (.int c u) e ∧ (e = true ↔ a = c) :=
  ⟨(a == c), SeqAt.EqAt.int_int a t c u, by simp⟩
theorem rcLt_int (A : Around) (s : Shared) (a : Int) (t : Tok) (c : Int) (u : Tok) (prog : Program) (w : World) (E : Value → Shared → Prop) (Q : Value → Shared → Prop) (h : Q (.bool (decide (a < c))) s) :
    wpAny (model prog w) A (richCompare .Lt (.int a t) (.int c u)) Q E s :=
  (PyProof.Rows.lt_int h : wpAny (model prog w) A (compareOp .Lt (.int a t) (.int c u)) Q E s)

section
open PySem.SeqAt
open PySem.AutoSeq1 (wpAny_loadPart')
open PySem.MeetsSeq PySem.MeetsSeq2 PySem.MeetsSeq3

theorem tuple_lt_ints (l b : Addr) (items items2 : Array Value) (n n2 : Nat) (dd dd2 : Option Addr) (sl sl2 : Array (Option Value)) (ns ms : List Int) (hi : IntsAre items.toList ns) (hj : IntsAre items2.toList ms) :
    Meets (Builtin.«tuple.__lt__» ⟨[.ref l, .ref b], []⟩)
      (fun _ R s => s.heap.get? l = some { cls := .type "tuple", dict := dd, data := .seq items n, slots := sl } ∧ s.heap.get? b = some { cls := .type "tuple", dict := dd2, data := .seq items2 n2, slots := sl2 } ∧
        R (.ok (.ret (.bool (lexLt ns ms)))) s) :=
  .of_wp fun prog w A R s h => by
    obtain ⟨hp, g, d, tk, os⟩ := s; obtain ⟨hl, hb, h⟩ := h
    have f2 := AutoSeq1.sub_tuple_tuple
    have z1 : items.size = ns.length := by rw [← hi.length]; simp
    have z2 : items2.size = ms.length := by rw [← hj.length]; simp
    wp_walk using wpAny_loadPart' hl, wpAny_loadPart' hb, wpAny_forIn_list _ (fun rest b s' => b.1 = none ∧ s' = ⟨hp, g, d, tk, os⟩ ∧ ∃ (vs ws : List Value) (ns' ms' : List Int), rest = vs.zip ws ∧
      IntsAre vs ns' ∧ IntsAre ws ms' ∧ ns'.length + items2.size = ms'.length + items.size ∧ R (.ok (.ret (.bool (lexLt ns' ms')))) ⟨hp, g, d, tk, os⟩) _
    case turn =>
      rintro ⟨y, x⟩ rest b s' ⟨hb', rfl, vs, ws, ns', ms', hz, hvi, hwi, hlen, hR⟩
      cases hvi with
      | nil => rw [List.zip_nil_left] at hz; cases hz
      | cons a t hvi' =>
        cases hwi with
        | nil => rw [List.zip_nil_right] at hz; cases hz
        | cons c u hwi' =>
          rw [List.zip_cons_cons] at hz
          injection hz with hyx hrest
          injection hyx with hy hx
          subst hy hx
          rw [lexLt_cons] at hR
          simp only [List.length_cons] at hlen
          obtain ⟨e, he, hiff⟩ := eqAt_int A.in1 ⟨hp, g, d, tk, os⟩ a t c u
          refine wpAny_bind (he prog w _ _ ?_)
          cases e with
          | true =>
            rw [if_pos (hiff.mp rfl)] at hR
            wp_walk
            exact ⟨rfl, rfl, _, _, _, _, hrest, hvi', hwi', by omega, hR⟩
          | false =>
            rw [if_neg (fun q => absurd (hiff.mpr q) Bool.false_ne_true)] at hR
            have hri := rcLt_int A.in1 ⟨hp, g, d, tk, os⟩ a t c u prog w
            wp_walk using hri
            exact ⟨_, rfl, by simpa using hR⟩
    case fin =>
      rintro ⟨b1, b2⟩ s' ⟨hb', rfl, vs, ws, ns', ms', hz, hvi, hwi, hlen, hR⟩
      simp only at hb'
      subst hb'
      have hv : lexLt ns' ms' = decide (items.size < items2.size) := by
        cases hvi with
        | nil =>
          cases hwi with
          | nil =>
            simp only [List.length_nil] at hlen
            rw [lexLt_nil_nil]
            exact (decide_eq_false (by omega)).symm
          | cons c u hw =>
            simp only [List.length_nil, List.length_cons] at hlen
            rw [lexLt_nil_cons]
            exact (decide_eq_true (by omega)).symm
        | cons a t hv =>
          cases hwi with
          | nil =>
            simp only [List.length_nil, List.length_cons] at hlen
            rw [lexLt_cons_nil]
            exact (decide_eq_false (by omega)).symm
          | cons c u hw =>
            rw [List.zip_cons_cons] at hz
            cases hz
      rw [hv] at hR
      wp_walk
      exact ⟨_, rfl, by simpa [Builtin.Tuple.tupleCompareSizes] using hR⟩
    case h =>
      exact ⟨rfl, rfl, items.toList, items2.toList, ns, ms, rfl, hi, hj, by omega, h⟩
end

section
variable {prog : Program} {w : World} {A : Around} {E : Value → Shared → Prop} {s : Shared}

theorem lt_tupInts {l b : Addr} {items items2 : Array Value} {ns ms : List Int} {Q : Value → Shared → Prop} (hl : IsTup s.heap l items) (hb : IsTup s.heap b items2) (hi : IntsAre items.toList ns) (hj : IntsAre items2.toList ms)
    (hu : A.units < cLine) (h : Q (.bool (lexLt ns ms)) s) : wpAny (model prog w) A (compareOp .Lt (.ref l) (.ref b)) Q E s := by
  obtain ⟨⟨cls, dd, data, sl⟩, ho, hc, n, hd⟩ := id hl
  obtain ⟨⟨cls2, dd2, data2, sl2⟩, ho2, hc2, n2, hd2⟩ := id hb
  simp only at hc hd hc2 hd2
  subst hc hd hc2 hd2
  exact richCompare_meets_room (op := .Lt) ⟨_, ho, rfl⟩ ⟨_, ho2, rfl⟩ PySem.F.slot_tuple_lt PySem.F.entry_tuple_lt (PySem.F.args_tuple_lt_2 _ _) (tuple_lt_ints l b items items2 n n2 dd dd2 sl sl2 ns ms hi hj)
    ⟨ho, ho2, show Value.bool (lexLt ns ms) ≠ Value.notImplemented ∧ Q (.bool (lexLt ns ms)) s from ⟨(fun x => nomatch x), h⟩⟩ hu

/-! ### t[a:b], not the whole -/
/-- a slice's bound as a place among n (d where it is left out) -/
noncomputable def sIx (n d : Nat) : Option Int → Nat
  | none => d
  | some v => if v < 0 then (v + (n : Int)).toNat else min v.toNat n
theorem sIx_none (n d : Nat) : sIx n d none = d := rfl
end
end HT

namespace L2
open PySem PySem.Spec PyProof.Rows

/-! ### the parts of a slice -/
noncomputable abbrev TO := St → Hp → (Option Int → Hp → Prop) → Prop
/-- a slice's part (left out, or an int) -/
noncomputable def PO (X : Cx) (e : Option Expr) (t : TO) : Prop :=
  ∀ (pins : List (Addr × Obj)) (s : Shared) (σ : St) (H : Hp) (Q : Option Int → Hp → Prop), Inv X pins σ H s → t σ H Q →
    wpAny (model X.prog X.w) X.A (evalPart e X.env) (fun u s' => ∃ o H', Inv X pins σ H' s' ∧ IsPart u o ∧ Q o H') X.xe s
noncomputable def tNoPart : TO := fun _ H Q => Q none H
noncomputable def tPart (t : TE) : TO := fun σ H Q => t σ H fun x H1 => ∃ i, x = .int i ∧ Q (some i) H1

theorem intsAre_of {ns : List Int} : ∀ {us : List Value}, Vals (ns.map V.int) us → IntsAre us ns := by
  induction ns with
  | nil => intro us r; rw [List.map_nil] at r; cases r; exact .nil
  | cons n ns ih =>
    intro us r
    rw [List.map_cons] at r
    cases r with
    | cons r1 r2 =>
      obtain ⟨t, e⟩ := r1
      subst e
      exact .cons n t (ih r2)

section
variable {X : Cx} {e : Expr} {te : TE} {lo hi : Option Expr} {tl th : TO} {pos p2 : Pos}

theorem po_none : PO X none tNoPart := by
  intro pins s σ H Q I h
  rw [evalPart_none]
  exact wpAny_pure ⟨none, H, I, .none, h⟩
theorem po_some (h : PE X e te) : PO X (some e) (tPart te) := by
  intro pins s σ H Q I hw
  rw [evalPart_some]
  refine thn (h pins s σ H _ I hw) fun u s1 ⟨x, H1, I1, r1, q1⟩ => ?_
  obtain ⟨i, rfl, q⟩ := q1
  obtain ⟨t, rfl⟩ := r1
  exact ⟨some i, H1, I1, .int i t, q⟩

/-- what a slice of a value is, by values: the slice object stands at sl -/
noncomputable def SlR (X : Cx) (r : V → Option Int → Option Int → Hp → VK → Prop) : Prop :=
  ∀ (pins : List (Addr × Obj)) (s : Shared) (σ : St) (H : Hp) (x : V) (v vl vu : Value) (lo hi : Option Int) (sl : Addr) (Q : VK), Inv X pins σ H s → RelV x v → s.heap.IsSliceOf sl vl vu .none → IsPart vl lo → IsPart vu hi → r x lo hi H Q →
    ∃ T id, typeLookup (.type T) "__getitem__" = pure (some (.builtin id)) ∧ s.TypeIs v T ∧ wpAny (model X.prog X.w) X.A (getItem v (.ref sl)) (EP X pins σ Q) X.xe s
noncomputable def tSl (r : V → Option Int → Option Int → Hp → VK → Prop) (te : TE) (tl th : TO) : TE := fun σ H Q => te σ H fun x H1 => tl σ H1 fun l H2 => th σ H2 fun u H3 => r x l u H3 Q
/-- a[lo:hi], any a -/
theorem pe_slice {r : V → Option Int → Option Int → Hp → VK → Prop} (hr : SlR X r) (he : PE X e te) (hl : PO X lo tl) (hu : PO X hi th) : PE X (.Subscript e (.Slice lo hi none p2) pos) (tSl r te tl th) := by
  intro pins s σ H Q I h
  refine Subscript_ (thn (he pins s σ H _ I h) fun v s1 ⟨x, H1, I1, r1, q1⟩ => ?_)
  refine wpAny_Slice (thn (hl pins s1 σ H1 _ I1 q1) fun vl s2 ⟨l, H2, I2, pl, q2⟩ => thn (hu pins s2 σ H2 _ I2 q2) fun vu s3 ⟨u, H3, I3, pu, q3⟩ => ?_)
  rw [evalPart_none]
  refine wpAny_pure ?_
  have I4 : Inv X pins σ H3 { s3 with heap := s3.heap.push { cls := .type "slice", data := .fields #[vl, vu, .none] } } := I3.kept (t' := s3.toks) fun b ob q => Heap.get?_push_of_some _ q
  obtain ⟨T, id, hT, ht, hg⟩ := hr pins { s3 with heap := s3.heap.push { cls := .type "slice", data := .fields #[vl, vu, .none] } } σ H3 x v vl vu l u s3.heap.objs.size Q I4 r1 (Heap.IsSliceOf.new ..) pl pu q3
  show wpAny (model X.prog X.w) X.A (subscriptTail e (.Slice lo hi none p2) v (.ref s3.heap.objs.size)) (EP X pins σ Q) X.xe { s3 with heap := s3.heap.push { cls := .type "slice", data := .fields #[vl, vu, .none] } }
  exact tail_any (ops := [.ref s3.heap.objs.size, v]) ht hT hg (by with_unfolding_all rfl)

/-- the items of xs[lo:hi] -/
noncomputable def cutV (xs : List V) (lo hi : Option Int) : List V := (xs.drop (HT.sIx xs.length 0 lo)).take (HT.sIx xs.length xs.length hi - HT.sIx xs.length 0 lo)
theorem cutV_length (xs : List V) (lo hi : Option Int) : (cutV xs lo hi).length ≤ xs.length :=
  Nat.le_trans (List.length_take_le' _ _) (by rw [List.length_drop]; exact Nat.sub_le _ _)
/-! ### t < u, t + u -/
noncomputable def rLtT (K : PySem.W.Frag) : R2 := fun x y H Q => ∃ a b ns ms, x = .ref a ∧ y = .ref b ∧ SqT K H a (ns.map V.int) ∧ SqT K H b (ms.map V.int) ∧ Q (.bl (HT.lexLt ns ms)) H
theorem op_ltT (hu : X.A.units < cLine) : OpR X (compareOp .Lt) (rLtT X.K) := by
  intro pins s σ H x y v u Q I rx ry h
  obtain ⟨a, b, ns, ms, rfl, rfl, ha, hb, q⟩ := h
  cases rx
  cases ry
  obtain ⟨its, r1, p1, _⟩ := I.tuple ha
  obtain ⟨its2, r2, p2, _⟩ := I.tuple hb
  have i1 : IntsAre its.toArray.toList ns := intsAre_of r1
  have i2 : IntsAre its2.toArray.toList ms := intsAre_of r2
  exact HT.lt_tupInts p1 p2 i1 i2 hu ⟨.bl (HT.lexLt ns ms), H, I, rfl, q⟩
end
end L2

namespace L2
open PySem PySem.Spec PyProof.Rows

/-! ### places -/
/-- the place that an index of any sign means -/
noncomputable def ixN (n : Nat) (i : Int) : Option Nat := if 0 ≤ i then (if i < n then some i.toNat else none) else if -(n : Int) ≤ i then some (i + n).toNat else none
noncomputable def atI {α : Type} (xs : List α) (i : Int) : Option α := (ixN xs.length i).bind fun j => xs[j]?
theorem ixN_seq {n : Nat} {i : Int} {j : Nat} (h : ixN n i = some j) : seqIndex? i n = some j ∧ j < n ∧ -(n : Int) ≤ i ∧ i < n := by
  unfold ixN at h
  by_cases h0 : 0 ≤ i
  · rw [if_pos h0] at h
    by_cases h1 : i < n
    · rw [if_pos h1] at h
      have e : i.toNat = j := Option.some.inj h
      exact ⟨by rw [seqIndex_of h0 h1, e], by omega, by omega, h1⟩
    · rw [if_neg h1] at h; cases h
  · rw [if_neg h0] at h
    by_cases h1 : -(n : Int) ≤ i
    · rw [if_pos h1] at h
      have e : (i + n).toNat = j := Option.some.inj h
      exact ⟨by rw [seqIndex_neg (by omega) h1, e], by omega, h1, by omega⟩
    · rw [if_neg h1] at h; cases h
theorem atI_get {α : Type} {xs : List α} {i : Int} {v : α} (h : atI xs i = some v) : ∃ j, seqIndex? i xs.length = some j ∧ xs[j]? = some v ∧ j < xs.length ∧ -(xs.length : Int) ≤ i ∧ i < xs.length := by
  unfold atI at h
  cases e : ixN xs.length i with
  | none => rw [e] at h; cases h
  | some j =>
    rw [e] at h
    obtain ⟨h1, h2, h3, h4⟩ := ixN_seq e
    exact ⟨j, h1, h, h2, h3, h4⟩
theorem atI_nat {α : Type} {xs : List α} {j : Nat} {v : α} (h : xs[j]? = some v) : atI xs (j : Int) = some v := by
  have hj : j < xs.length := (List.getElem?_eq_some_iff.mp h).1
  have e : ixN xs.length (j : Int) = some j := by
    unfold ixN
    rw [if_pos (by omega), if_pos (by omega)]; simp
  unfold atI; rw [e]; exact h
/-! ### what may be subscripted -/
/-- what stands as an index of a plain subscript -/
noncomputable def PlainIx (b : Expr) : Prop := ∀ o i, subscripted b false o i = operate [o, i] (getItem o i)
/-- a subscript by values -/
noncomputable def IxR (X : Cx) (r : R2) : Prop :=
  ∀ (value slice : Expr) (pins : List (Addr × Obj)) (s : Shared) (σ : St) (H : Hp) (x y : V) (v u : Value) (Q : VK), Inv X pins σ H s → RelV x v → RelV y u → r x y H Q →
    subscripted slice false v u = operate [v, u] (getItem v u) → wpAny (model X.prog X.w) X.A (subscriptTail value slice v u) (EP X pins σ Q) X.xe s
/-- a call of a builtin's method by values: the receiver, the arguments -/
noncomputable def MtR (X : Cx) (id : String) (r : V → List V → Hp → VK → Prop) : Prop :=
  ∀ (pins : List (Addr × Obj)) (s : Shared) (σ : St) (H : Hp) (x : V) (xs : List V) (v : Value) (us : List Value) (Q : VK), Inv X pins σ H s → RelV x v → Vals xs us → r x xs H Q →
    wpAny (model X.prog X.w) X.A (call (.builtin id) (v :: us)) (EP X pins σ Q) X.xe s
section
variable {X : Cx} {a b : Expr} {ta tb : TE} {pos : Pos}
theorem IxR.or {r r' : R2} (h : IxR X r) (h' : IxR X r') : IxR X (fun x y H Q => r x y H Q ∨ r' x y H Q) := by
  intro value slice pins s σ H x y v u Q I rx ry q hs
  rcases q with q | q
  · exact h value slice pins s σ H x y v u Q I rx ry q hs
  · exact h' value slice pins s σ H x y v u Q I rx ry q hs
theorem MtR.or {id : String} {r r' : V → List V → Hp → VK → Prop} (h : MtR X id r) (h' : MtR X id r') : MtR X id (fun x xs H Q => r x xs H Q ∨ r' x xs H Q) := by
  intro pins s σ H x xs v us Q I rx rs q
  rcases q with q | q
  · exact h pins s σ H x xs v us Q I rx rs q
  · exact h' pins s σ H x xs v us Q I rx rs q
/-- a[b] -/
theorem pe_ix {r : R2} (hr : IxR X r) (ha : PE X a ta) (hb : PE X b tb) (hs : PlainIx b) : PE X (.Subscript a b pos) (tOp r ta tb) := by
  intro pins s σ H Q I h
  exact Subscript_ (binT ha hb I h fun v u s2 x y H2 I2 rx ry q => hr a b pins s2 σ H2 x y v u Q I2 rx ry q (hs _ _))

noncomputable def rIxL (K : PySem.W.Frag) : R2 := fun x y H Q => ∃ p xs i v, x = .ref p ∧ y = .int i ∧ SqL K H p xs ∧ atI xs i = some v ∧ Q v H
noncomputable def rIxT (K : PySem.W.Frag) : R2 := fun x y H Q => ∃ p xs i v, x = .ref p ∧ y = .int i ∧ SqT K H p xs ∧ atI xs i = some v ∧ Q v H
theorem ix_list : IxR X (rIxL X.K) := by
  intro value slice pins s σ H x y v u Q I rx ry h hs
  obtain ⟨p, xs, i, z, rfl, rfl, hq, he, q⟩ := h
  cases rx
  obtain ⟨t, rfl⟩ := ry
  obtain ⟨its, r, pl, hz⟩ := I.list hq
  obtain ⟨j, h1, h2, h3, h4, h5⟩ := atI_get he
  obtain ⟨w, ew, rw'⟩ := r.get h2
  have hl := r.length
  have hn := line63
  have fin : EP X pins σ Q w s := ⟨z, H, I, rw', q⟩
  by_cases h0 : 0 ≤ i
  · have hj : i.toNat = j := by
      rw [seqIndex_of h0 h5] at h1
      exact Option.some.inj h1
    exact item_listR pl.isList h0 (by omega) (by rw [hj]; simpa using ew) fin hs
  · have hj : (i + (its.toArray.size : Int)).toNat = j := by
      rw [seqIndex_neg (by omega) h4] at h1
      rw [List.size_toArray, ← hl]
      exact Option.some.inj h1
    exact subscriptTail_builtinR (x := w) pl.isList.typeIs slot_list_getitem.lookup
      (wpAny_getItem_list_neg (Q := fun r s' => r = w ∧ EP X pins σ Q r s') pl.isList (by omega) (by rw [List.size_toArray] <;> omega) (by omega) (by rw [hj]; simpa using ew) ⟨rfl, fin⟩) hs
theorem ix_tup : IxR X (rIxT X.K) := by
  intro value slice pins s σ H x y v u Q I rx ry h hs
  obtain ⟨p, xs, i, z, rfl, rfl, hq, he, q⟩ := h
  cases rx
  obtain ⟨t, rfl⟩ := ry
  obtain ⟨its, r, pl, hz⟩ := I.tuple hq
  obtain ⟨j, h1, h2, h3, h4, h5⟩ := atI_get he
  obtain ⟨w, ew, rw'⟩ := r.get h2
  have hl := r.length
  have hn := line63
  have fin : EP X pins σ Q w s := ⟨z, H, I, rw', q⟩
  exact subscriptTail_builtinR (x := w) pl.typeIs slot_tuple_getitem.lookup
    (getItem_tuple (j := j) (Q := fun r s' => r = w ∧ EP X pins σ Q r s') pl (by omega) (by omega) (by rw [List.size_toArray, ← hl]; exact h1) (by simpa using ew) ⟨rfl, fin⟩) hs
/-! ### slices -/
theorem castmin (a b : Nat) : ((min a b : Nat) : Int) = min (a : Int) b := by
  rcases Nat.le_total a b with h | h
  · rw [Nat.min_eq_left h, Int.min_eq_left (Int.ofNat_le.mpr h)]
  · rw [Nat.min_eq_right h, Int.min_eq_right (Int.ofNat_le.mpr h)]
theorem clipE (i : Int) (n : Nat) : max 0 (min (if i < 0 then i + n else i) (n : Int)) = (((if i < 0 then (i + (n : Int)).toNat else min i.toNat n) : Nat) : Int) := by
  by_cases h : i < 0
  · rw [if_pos h, if_pos h, Int.min_eq_left (by have := Int.add_le_add_right (Int.le_of_lt h) (n : Int); rwa [Int.zero_add] at this), Int.ofNat_toNat, Int.max_comm]
  · rw [if_neg h, if_neg h, castmin, Int.toNat_of_nonneg (Int.not_lt.mp h), Int.max_eq_right (Int.le_min.mpr ⟨Int.not_lt.mp h, Int.natCast_nonneg n⟩)]
theorem slice_bounds (lo hi : Option Int) (n : Nat) : (sliceBounds lo hi none n).1 = ((HT.sIx n 0 lo : Nat) : Int) ∧ (sliceBounds lo hi none n).2.1 = ((HT.sIx n n hi : Nat) : Int) ∧ (sliceBounds lo hi none n).2.2 = 1 := by
  refine ⟨?_, ?_, rfl⟩
  · cases lo with
    | none => rfl
    | some i => exact clipE i n
  · cases hi with
    | none => rfl
    | some i => exact clipE i n
theorem slicePick_cut (its : List Value) (lo hi : Option Int) : slicePick its.toArray lo hi none = ((its.drop (HT.sIx its.length 0 lo)).take (HT.sIx its.length its.length hi - HT.sIx its.length 0 lo)).toArray := by
  obtain ⟨h1, h2, h3⟩ := slice_bounds lo hi its.toArray.size
  unfold slicePick
  rw [h1, h2, h3]
  simp only [sliceRange_one, pick_run, List.size_toArray] <;> rfl
/-- xs[lo:hi] of a list: a new list -/
noncomputable def rSlL (K : PySem.W.Frag) : V → Option Int → Option Int → Hp → VK → Prop := fun x lo hi H Q => ∃ a xs, x = .ref a ∧ SqL K H a xs ∧ ∀ p, H p = none → Q (.ref p) (upd H p (.lst (cutV xs lo hi)))
theorem sl_list : SlR X (rSlL X.K) := by
  intro pins s σ H x v vl vu lo hi sl Q I rx hs pl pu h
  obtain ⟨a, xs, rfl, hx, q⟩ := h
  cases rx
  obtain ⟨its, r, ht, hz⟩ := I.list hx
  have hlen := r.length
  refine ⟨"list", _, slot_list_getitem.lookup, ht.isList.typeIs, ?_⟩
  refine wpAny_getItem_list_slice ht.isList hs pl pu .none (by simp) ?_ (by rw [List.size_toArray] <;> omega)
  rw [slicePick_cut, ← hlen]
  refine ⟨.ref s.heap.objs.size, _, I.laid (t' := s.toks) (o := .lst (cutV xs lo hi)) (fun b ob q => Heap.get?_push_of_some _ q) (Nat.le_refl _) ?_, rfl, q _ (I.hok.fresh (Nat.le_refl _))⟩
  exact ⟨Nat.le_trans (cutV_length xs lo hi) hz, _, 0, (r.drop (HT.sIx xs.length 0 lo)).take (HT.sIx xs.length xs.length hi - HT.sIx xs.length 0 lo), Heap.get?_push_size _ rfl⟩

/-! ### len, list(x), tuple(x) of any list or tuple that is read -/
theorem call_len_seq : CallR X (.builtin "len") (fun xs H Q => ∃ p ys, xs = [.ref p] ∧ (SqL X.K H p ys ∨ SqT X.K H p ys) ∧ Q (.int ys.length) H) := by
  intro pins s σ H xs us Q I r h
  obtain ⟨p, ys, rfl, hq, q⟩ := h
  obtain ⟨u, rfl, rx⟩ := vals1 r
  cases rx
  have hn := line63
  rcases hq with hq | hq
  · obtain ⟨its, r', pl, hz⟩ := I.list hq
    have hlen := r'.length
    exact Calls.call_len_list pl.isList (by simp only [List.size_toArray] <;> omega) ⟨.int ys.length, H, I.tok _, ⟨s.toks + 1, by rw [List.size_toArray, hlen]⟩, q⟩
  · obtain ⟨its, r', pl, hz⟩ := I.tuple hq
    have hlen := r'.length
    exact len_tuple pl (by simp only [List.size_toArray] <;> omega) ⟨.int ys.length, H, I.tok _, ⟨s.toks + 1, by rw [List.size_toArray, hlen]⟩, q⟩
theorem CallR.or {f : Value} {r r' : List V → Hp → VK → Prop} (h : CallR X f r) (h' : CallR X f r') : CallR X f (fun xs H Q => r xs H Q ∨ r' xs H Q) := by
  intro pins s σ H xs us Q I rs q
  rcases q with q | q
  · exact h pins s σ H xs us Q I rs q
  · exact h' pins s σ H xs us Q I rs q
theorem call_list_of : CallR X (.type "list") (fun xs H Q => ∃ p ys, xs = [.ref p] ∧ (SqL X.K H p ys ∨ SqT X.K H p ys) ∧ ∀ l, H l = none → Q (.ref l) (upd H l (.lst ys))) := by
  intro pins s σ H xs us Q I r h
  obtain ⟨p, ys, rfl, hq, q⟩ := h
  obtain ⟨u, rfl, rx⟩ := vals1 r
  cases rx
  have fin : ∀ (its : List Value), Vals ys its → ys.length ≤ sizeLine → ∀ (h' : Heap) (c' : Nat), (∀ b o', s.heap.get? b = some o' → h'.get? b = some o') →
      h'.get? s.heap.objs.size = some { cls := .type "list", dict := none, data := .seq its.toArray c', slots := #[] } → EP X pins σ Q (.ref s.heap.objs.size) { s with heap := h' } := fun its r' hz h' c' kp e =>
    ⟨.ref s.heap.objs.size, _, I.laid (t' := s.toks) kp (Nat.le_refl _) (show ObjOk X.prog X.w _ h' _ (.lst ys) from ⟨hz, its, c', r', e⟩), rfl, q _ (I.hok.fresh (Nat.le_refl _))⟩
  rcases hq with hq | hq
  · obtain ⟨its, r', pl, hz⟩ := I.list hq
    have hlen := r'.length
    obtain ⟨o, ho, hc, n, hd⟩ := pl.isList
    exact call_list_seq p (.inl rfl) ho hc hd (fun h' c' kp e => fin its r' hz h' c' kp e) (by simp only [List.size_toArray] <;> omega)
  · obtain ⟨its, r', pl, hz⟩ := I.tuple hq
    have hlen := r'.length
    obtain ⟨o, ho, hc, n, hd⟩ := pl
    exact call_list_seq p (.inr rfl) ho hc hd (fun h' c' kp e => fin its r' hz h' c' kp e) (by simp only [List.size_toArray] <;> omega)
/-! ### the call of a builtin's method: o.m(..) -/
/-- the value is of that builtin type -/
noncomputable def tyV (K : PySem.W.Frag) (T : String) (x : V) (H : Hp) : Prop := match x with
  | .str _ => T = "str"
  | .int _ => T = "int"
  | .ref p => (T = "list" ∧ ∃ xs, SqL K H p xs) ∨ (T = "tuple" ∧ ∃ o, K.lookup p = some o ∧ o.cls = .type "tuple" ∧ o.dict = none) ∨
      (T = "dict" ∧ ((∃ kvs, H p = some (.dK kvs)) ∨ ∃ kvs, H p = some (.dT kvs))) ∨ (T = "set" ∧ ∃ S n, H p = some (.set S n))
  | _ => False
theorem tyV_is {pins : List (Addr × Obj)} {σ : St} {H : Hp} {s : Shared} {T : String} {x : V} {v : Value} (I : Inv X pins σ H s) (r : RelV x v) (ty : tyV X.K T x H) :
    s.TypeIs v T ∧ ∀ a, v = .ref a → ∃ ob, s.heap.get? a = some ob ∧ ob.dict = none := by
  cases x with
  | str z =>
    obtain ⟨t, rfl⟩ := r
    cases (show T = "str" from ty)
    exact ⟨typeIs_str s z t, fun _ e => nomatch e⟩
  | int i =>
    obtain ⟨t, rfl⟩ := r
    cases (show T = "int" from ty)
    exact ⟨typeIs_int s i t, fun _ e => nomatch e⟩
  | ref p =>
    cases r
    rcases ty with ⟨rfl, xs, hq⟩ | ⟨rfl, o, hk, hc, hd⟩ | ⟨rfl, hk⟩ | ⟨rfl, S, n, hk⟩
    · obtain ⟨its, _, pl, _⟩ := I.list hq
      refine ⟨pl.isList.typeIs, fun a e => ?_⟩
      cases e
      obtain ⟨o, n, e, c, hd, _⟩ := pl
      exact ⟨o, e, hd⟩
    · refine ⟨⟨o, I.kIn p o hk, hc⟩, fun a e => ?_⟩
      cases e
      exact ⟨o, I.kIn _ o hk, hd⟩
    · have z : ∃ o, s.heap.get? p = some o ∧ o.ExactDict := by
        rcases hk with ⟨kvs, hk⟩ | ⟨kvs, hk⟩
        · obtain ⟨_, _, _, _, o, _, _, e, ex, _⟩ := I.hok p _ hk
          exact ⟨o, e, ex⟩
        · obtain ⟨_, _, _, _, o, _, _, e, ex, _⟩ := I.hok p _ hk
          exact ⟨o, e, ex⟩
      obtain ⟨o, e, ex⟩ := z
      refine ⟨⟨o, e, ex.1⟩, fun a e2 => ?_⟩
      cases e2
      exact ⟨o, e, ex.2.1⟩
    · obtain ⟨o, _, _, _, e, ex, _⟩ := I.hok p _ hk
      refine ⟨⟨o, e, ex.1⟩, fun a e2 => ?_⟩
      cases e2
      exact ⟨o, e, ex.2.1⟩
  | _ => exact False.elim ty
noncomputable def tBM (K : PySem.W.Frag) (T : String) (r : V → List V → Hp → VK → Prop) (to : TE) (t : TA) : TE := fun σ H Q => to σ H fun x H1 => tyV K T x H1 ∧ t σ H1 fun xs H2 => r x xs H2 Q
variable {o e : Expr} {es : List Expr} {to : TE} {t : TA} {name : Str} {apos cpos : Pos} {T id : String} {r : V → List V → Hp → VK → Prop}
theorem pe_bm (pa : PlainAttrs T) (slot : Slot T name id) (hty : typeOf (.builtin id) = pure (.type "method_descriptor")) (hm : MtR X id r) (ho : PE X o to) (ha : PA X (e :: es) t)
    (hbase : attributeBase o name X.env (eval o X.env) = eval o X.env := by rfl)
    (hfew : ((backTo cpos (starEach (e :: es) X.env)).all (fun x => !x.1) && (backToKw cpos (keywordEach [] X.env)).all (fun x => x.1.isSome)
      && decide ((e :: es).length + ([] : List Keyword).length + (if ([] : List Keyword).isEmpty then 0 else 1) < 30)) = true := by rfl)
    (hline : (apos.endLine == cpos.line) = true := by rfl) (hs : starEach (e :: es) X.env = (false, eval e X.env) :: starEach es X.env := by rfl) (hplain : (backTo cpos (starEach es X.env)).any (·.1) = false := by rfl) :
    PE X (.Call (.Attribute o name apos) (e :: es) [] cpos) (tBM X.K T r to t) := by
  intro pins s σ H Q I h
  refine wpAny_Call_method_late hbase hfew hline rfl (thn (ho pins s σ H _ I h) fun v s1 ⟨x, H1, I1, r1, ty, q1⟩ => ?_)
  obtain ⟨h1, h2⟩ := tyV_is I1 r1 ty
  refine ⟨T, id, pa, slot, hty, h1, h2, ?_⟩
  have hA := ha cpos pins s1 σ H1 _ I1 q1
  rw [hs] at hA ⊢
  refine Calls.callWith_builtin (by show (false || (backTo cpos (starEach es X.env)).any (·.1)) = false; rw [hplain] <;> rfl) (Calls.evalArgs_plain ?_)
  exact thn hA fun us s2 ⟨vs, H2, I2, r2, q2⟩ => hm pins s2 σ H2 x vs v us Q I2 r1 r2 q2
/- xs.append(e), list.index on a module's tuple .. are MtR facts of 06m -/
end
end L2

namespace L2
open PySem PySem.Spec PyProof.Rows

noncomputable def MtM (X : Cx) (id : String) (r : V → List V → Hp → VK → Prop) : Prop :=
  ∀ (pins : List (Addr × Obj)) (s : Shared) (σ : St) (H : Hp) (x : V) (xs : List V) (v : Value) (us : List Value) (Q : VK), Inv X pins σ H s → RelV x v → Vals xs us → r x xs H Q →
    wpAny (model X.prog X.w) X.A (call (.builtin id) (v :: us)) (EP X pins σ Q) X.xe s

/-! ### lists of values -/
theorem Vals.one {x : V} {us : List Value} (h : Vals [x] us) : ∃ u, us = [u] ∧ RelV x u := by
  cases h with
  | cons r h => cases h; exact ⟨_, rfl, r⟩
theorem Vals.two {x y : V} {us : List Value} (h : Vals [x, y] us) : ∃ u v, us = [u, v] ∧ RelV x u ∧ RelV y v := by
  cases h with
  | cons r h => obtain ⟨v, rfl, q⟩ := Vals.one h; exact ⟨_, _, rfl, r, q⟩
theorem Vals.zero : ∀ {us : List Value}, Vals [] us → us = []
  | _, .nil => rfl
theorem Vals.reverse {xs : List V} {us : List Value} (h : Vals xs us) : Vals xs.reverse us.reverse := by
  induction h with
  | nil => exact .nil
  | cons r t ih => rw [List.reverse_cons, List.reverse_cons]; exact Vals.append ih (.cons r .nil)
section
variable {X : Cx} {pins : List (Addr × Obj)} {σ : St} {H : Hp} {s : Shared} {l b : Addr} {xs ys zs : List V}

/-! ### the two steps: a tracked list is rewritten, a new list is laid -/
theorem Inv.lset {its its' : List Value} {n : Nat} {f : Array Value → Array Value} {t' : Nat} (I : Inv X pins σ H s) (hH : H l = some (.lst xs))
    (e : s.heap.get? l = some { cls := .type "list", data := .seq its.toArray n }) (hf : f its.toArray = its'.toArray) (hv : Vals ys its') (hz : ys.length ≤ sizeLine) :
    Inv X pins σ (upd H l (.lst ys)) { s with heap := s.heap.update l (Obj.mapSeq f), toks := t' } := by
  have q := PySem.IsL.update e f
  rw [hf] at q
  refine I.write (x := l) (e := l) (by rw [hH]; exact trivial) (.inl rfl) (fun b' u hb hu => (Heap.get?_update_other s.heap (Obj.mapSeq f) (Ne.symm hb)).trans hu) ⟨_, q⟩ ?_
  exact ⟨hz, its', _, hv, q⟩
theorem Inv.lnew {its : List Value} {t' : Nat} (I : Inv X pins σ H s) (hv : Vals ys its) (hz : ys.length ≤ sizeLine) :
    Inv X pins σ (upd H s.heap.objs.size (.lst ys)) { s with heap := s.heap.push { cls := .type "list", data := .seq its.toArray }, toks := t' } :=
  I.laid (fun _ _ q => Heap.get?_push_of_some _ q) (Nat.le_refl _) ⟨hz, its, 0, hv, Heap.get?_push_size _ rfl⟩
theorem Inv.fresh (I : Inv X pins σ H s) : H s.heap.objs.size = none := I.hok.fresh (Nat.le_refl _)
theorem Inv.lstM (I : Inv X pins σ H s) (hH : H l = some (.lst xs)) : xs.length ≤ sizeLine ∧ ∃ (its : List Value) (n : Nat), Vals xs its ∧ xs.length = its.length ∧ s.heap.get? l = some { cls := .type "list", data := .seq its.toArray n } := by
  obtain ⟨z, its, n, r, e⟩ := I.hok l _ hH
  exact ⟨z, its, n, r, r.length, e⟩

end

section
variable {X : Cx}

/-! ### methods -/
noncomputable def rAppend : V → List V → Hp → VK → Prop := fun x vs H Q => ∃ l xs y, x = .ref l ∧ vs = [y] ∧ H l = some (.lst xs) ∧ xs.length < sizeLine ∧ Q .non (upd H l (.lst (xs ++ [y])))
theorem mt_append : MtM X "list.append" rAppend := by
  intro pins s σ H x vs v us Q I rx rv h
  obtain ⟨l, xs, y, rfl, rfl, hH, hz, q⟩ := h
  cases rx
  obtain ⟨u, rfl, ru⟩ := rv.one
  obtain ⟨z, its, n, r, hl, e⟩ := I.lstM hH
  refine call_meets F.slot_list_append ⟨_, e, rfl⟩ F.entry_list_append (F.args_list_append_2 _ _) (PySem.list_append l its.toArray n u (by rw [List.size_toArray]; omega)) ⟨e, ?_⟩
  refine ⟨.non, _, I.lset (its' := its ++ [u]) hH e (by simp) (r.append (.cons ru .nil)) ?_, rfl, q⟩
  rw [List.length_append, List.length_singleton]
  omega

/-! ### list + list, list += list, list * int -/
noncomputable def rCat : R2 := fun x y H Q => ∃ l b xs zs, x = .ref l ∧ y = .ref b ∧ H l = some (.lst xs) ∧ H b = some (.lst zs) ∧ xs.length + zs.length ≤ sizeLine ∧ ∀ p, H p = none → Q (.ref p) (upd H p (.lst (xs ++ zs)))
theorem op_cat : OpR X (binaryOp .Add) rCat := by
  intro pins s σ H x y v u Q I rx ry h
  obtain ⟨l, b, xs, zs, rfl, rfl, hH, hB, hz, q⟩ := h
  cases rx
  cases ry
  obtain ⟨z, its, n, r, hl, e⟩ := I.lstM hH
  obtain ⟨z2, its2, n2, r2, hl2, e2⟩ := I.lstM hB
  refine PySem.P.add_list e e2 ?_ (by rw [List.size_toArray, List.size_toArray]; omega)
  have ea : its.toArray ++ its2.toArray = (its ++ its2).toArray := by simp
  rw [ea]
  exact ⟨.ref _, _, I.lnew (t' := s.toks) (r.append r2) (by rw [List.length_append]; omega), rfl, q _ I.fresh⟩
end

/-! ### xs[a:b] = ys -/
section
variable {prog : Program} {w : World} {A : Around} {E : Value → Shared → Prop} {s : Shared}
set_option maxRecDepth 100000 in
end

section
variable {X : Cx}
end
end L2

namespace Att
open PySem PySem.W PySem.Calls PyProof.Rows

/-! ### the script -/
theorem ints_of_wellAll {P : Params} {h : Heap} : ∀ (ns : List Int) (vs : List Value), WellAll P h vs (ns.map WData.int) → IntsAre vs ns := by
  intro ns
  induction ns with
  | nil =>
    intro vs w
    rw [List.map_nil] at w
    cases w
    exact .nil
  | cons n ns ih =>
    intro vs w
    rw [List.map_cons] at w
    cases w with
    | cons a b =>
      cases a
      exact .cons _ _ (ih _ b)

theorem script_of {l : OpenLaw} {n : Nat} (hn : l.most = some n) {P : Params} {h : Heap} {args : List WData} {vals : List Value}
    (hpre : l.row.toRowW.claim.pre args = true) (hwl : WellAll P h vals args) :
    ∃ a vs ns, vals = [Value.ref a] ∧ args = [WData.list (ns.map WData.int)] ∧ h.get? a = some { cls := .type "list", data := .seq vs.toArray } ∧ IntsAre vs ns ∧ ns.length ≤ n := by
  have hsh : WShape.hasAll [] args [.list .int] = true := (pre_splitW hpre).1
  have hc : l.pre.holds [] { args := args } = true := (pre_splitW hpre).2
  obtain ⟨d, r, rfl, h1, h2⟩ := hasAllW_cons hsh
  obtain rfl := hasAllW_nil h2
  obtain ⟨xs, rfl, h3⟩ := hasW_list h1
  obtain ⟨ns, rfl⟩ := items_int h3
  have hlen : ns.length ≤ n := by
    unfold OpenLaw.pre at hc
    have h4 : (WTm.not (.lt (.lit (.int (n : Int))) (.len (.arg 0)))).holds [] { args := [.list (ns.map .int)] } = true := by
      have h4 := (holds_andW hc).1
      rw [hn] at h4
      exact h4
    have h5 := condW_of h4 (w_not (w_lt w_lit (w_len_list (w_arg rfl))))
    rw [List.length_map] at h5
    refine Nat.le_of_not_lt fun q => ?_
    have q' : (n : Int) < ((ns.length : Nat) : Int) := by omega
    first
      | (rw [decide_eq_true q'] at h5; exact absurd h5 (by decide))
      | (simp at h5; omega)
  cases hwl with
  | cons w1 w2 =>
    cases w2
    cases w1 with
    | list ho hall => exact ⟨_, _, ns, rfl, rfl, ho, ints_of_wellAll ns _ hall, hlen⟩

theorem post_true (l : OpenLaw) (args : List WData) : l.row.toRowW.claim.post args (.bool true) args = true :=
  postW_of (r := l.row.toRowW) (X := (true == true))
    (show WShape.has [] (.bool true) .bool = true by first | rfl | decide | simp [WShape.has, WShape.arms, WShape.armsAll])
    (show (WTm.eq .res (.lit (.bool true))).value [] { args := args, res := some (.bool true), after := args } = some (.bool (true == true)) from w_eq_bool (w_res rfl) w_lit) rfl

/-- the same from a codeAny of the CALL (for a layer whose function contracts speak of calls) -/
theorem attach_call {l : OpenLaw} {n : Nat} {q : Program} {loose : List Str} {XP : (Str → Option Value) → Heap → Prop} {YP : World → Heap → Prop} {d : DefRec}
    (hn : l.most = some n) (hdf : d.params.defaults = [])
    (call : ∀ (w : World) (s₀ s₁ : Shared) (mg mb : Str → Option Value) (fa : Addr) (o : Obj) (pm cd doc : Value) (a : Addr) (vs : List Value) (ns : List Int),
      Ground q loose [] XP w s₀ mg mb s₁.heap → YP w s₁.heap →
      s₁.heap.get? fa = some o → o.data = .func (docDef d.name d.params d.body d.scope pm cd doc) → s₁.heap.CodeRec cd d.name → mg d.name = some (.ref fa) →
      s₁.heap.get? a = some { cls := .type "list", data := .seq vs.toArray } → IntsAre vs ns → ns.length ≤ n → s₁.gens = #[] →
      codeAny (model l.prog w) callerA (.call (.ref fa) ⟨[.ref a], []⟩) (fun r s' => r = .ok (.ret (.bool true)) ∧ OldK s₁.heap s'.heap ∧ s'.os = s₁.os ∧ AllBare s'.gens) s₁) :
    WalkO q loose XP YP l.row.toRowW d [] (fun f vs => PySem.call f vs) := by
  intro w s₀ s₁ mg mb G Y fa o pm cd doc dV kV ho hd hcd hD hmg hg args vals as hpre hlay hrd hwl hlo
  obtain rfl : dV = .none := Dflts.none hD hdf
  obtain rfl : kV = .none := Dflts.noKw hD
  obtain ⟨a, vs, ns, rfl, rfl, hobj, hints, hlen⟩ := script_of hn hpre hwl
  refine enter_call (codeAny_mono (call w s₀ s₁ mg mb fa o pm cd doc a vs ns G Y ho (fd_plain hd) hcd hmg hobj hints hlen hg) fun r s' hq => ?_)
  obtain ⟨rfl, h2, h3, h4⟩ := hq
  exact ⟨.inl ⟨.bool true, .bool true, [], rfl, fun _ => rfl, .bool true, post_true l _, fun _ => ⟨List.Pairwise.nil, fun _ hm => (nomatch hm)⟩⟩, h2, h3, h4⟩

/-! ### rules over ANY heap (no ledger) from facts about the written part K: the library's own take a ledger (News) for what they write -/
section
variable {prog : Program} {w : World} {A : Around} {E : Value → Shared → Prop} {s : Shared} {K : Frag}

noncomputable def ledger (h : Heap) (L d : Addr) : List (Addr × Obj) := (List.range h.objs.size).filterMap fun a => if a = L ∨ a = d then none else (h.get? a).map fun o => (a, o)
end
end Att

namespace L2
open PySem PySem.Spec PyProof.Rows

theorem vals_ints : ∀ {vs : List Value} {ns : List Int}, IntsAre vs ns → Vals (ns.map V.int) vs
  | _, _, .nil => .nil
  | _, _, .cons n t h => .cons ⟨t, rfl⟩ (vals_ints h)

/-- nothing is tracked but the script, known to the object (or it is an object of the module) -/
noncomputable def Only (H : Hp) : Prop := ∀ b, H b = none ∨ ∃ o xs, H b = some (.frz o (.lst xs))

/-- THE HEAD: the law's promise, at the heap behind the top. F, the promise of the law's def, may use that base is part of the heap (so K.In base, base.Ns mainGlobals mg stand in Mod) -/
theorem law_call {P : Program} {w : World} {K : PySem.W.Frag} {mg mb : Str → Option Value} {CX : CXT} {k : Nat} {fa a : Addr} {fd : FuncData} {x : Str} {sp : Sp} {s₁ : Shared} {vs : List Value} {ns : List Int}
    (KX : K.In s₁.heap) (hns : s₁.heap.Ns mainGlobals mg) (hb : s₁.heap.Ns builtinsNs mb) (hbb : ∀ x : Str, x ≠ "__name__" → mb x = bootBuiltins x) (hlim : s₁.heap.NoLimit) (hg : s₁.gens = #[])
    (ha : s₁.heap.get? a = some { cls := .type "list", data := .seq vs.toArray }) (hi : IntsAre vs ns) (hl : ns.length ≤ sizeLine) (hr : Room k callerA)
    (F : ∀ base : Heap, K.In base → base.Ns mainGlobals mg → FnOk P w K mg base CX k fa fd [x] sp) (hbind : ∀ (s : Shared) (u : Value), BindsTo s fd ⟨[u], []⟩ [(x, u)])
    (hsp : ∀ H : Hp, Only H → SqL K H a (ns.map V.int) → sp [.ref a] H (fun v _ => v = .bl true) fun _ _ _ => False)
    (hCX : ∀ H e s', CX [] H s₁ (fun _ _ _ => False) e s' → False) :
    codeAny (model P w) callerA (.call (.ref fa) ⟨[.ref a], []⟩) (fun r s' => r = .ok (.ret (.bool true)) ∧ OldK s₁.heap s'.heap ∧ s'.os = s₁.os ∧ AllBare s'.gens) s₁ := by
  have rv := vals_ints hi
  have lenV := hi.length
  -- from an abstract heap in which nothing but the script may be tracked
  have core : ∀ H : Hp, Only H → SqL K H a (ns.map V.int) → HOk P w H s₁.heap → (∀ b, H b ≠ none → b = a) → (H a ≠ none → K.lookup a = none) →
      codeAny (model P w) callerA (.call (.ref fa) ⟨[.ref a], []⟩) (fun r s' => r = .ok (.ret (.bool true)) ∧ OldK s₁.heap s'.heap ∧ s'.os = s₁.os ∧ AllBare s'.gens) s₁ := by
    intro H hO hS hok hA hK
    have base_of : ∀ {b : Addr} {o : Obj}, s₁.heap.get? b = some o → H b = none → (hidT s₁.heap H).get? b = some o := fun e n => hidT_get e n
    have noA : ∀ {b : Addr} {o : Obj} {es : Array DictEntry} {ep : Nat}, s₁.heap.get? b = some o → o.data = .dict es ep → H b = none := fun {b o es ep} e d => by
      cases q : H b with
      | none => rfl
      | some u =>
        have e' : b = a := hA b (by rw [q]; simp)
        subst e'
        rw [ha] at e; cases e
        have d' : Data.seq vs.toArray _ = Data.dict es ep := d
        cases d'
    have nsK : ∀ {b : Addr} {m : Str → Option Value}, s₁.heap.Ns b m → (hidT s₁.heap H).Ns b m := fun {b m} ⟨o, es, ep, e, d, r⟩ => ⟨o, es, ep, base_of e (noA e d), d, r⟩
    have hKb : K.In (hidT s₁.heap H) := fun b o e => base_of (KX b o e) (by
      cases q : H b with
      | none => rfl
      | some u =>
        have e' : b = a := hA b (by rw [q]; simp)
        subst e'
        rw [hK (by rw [q]; simp)] at e; cases e)
    have hM : Mod K mg (hidT s₁.heap H) := ⟨hKb, nsK hns, ⟨mb, nsK hb, hbb⟩, let ⟨mc, h1, h2⟩ := hlim; ⟨mc, nsK h1, h2⟩⟩
    have e0 : Env0 P w K mg (hidT s₁.heap H) callerA [] s₁ H := ⟨rfl, hM, fun b o e => of_hidT e, Nat.le_of_eq (hidT_size _ _), trivial, fun b hb => absurd (show b ∈ ([] : List Addr) from hb) (by simp), hok, .of_eq hg⟩
    refine codeAny_mono ((F _ hKb (nsK hns)).run callerA [] s₁ H ⟨[.ref a], []⟩ [.ref a] [.ref a] _ _ hr e0 (hbind s₁ (.ref a)) (.cons rfl .nil) (hsp H hO hS)) fun r s' h => ?_
    cases r with
    | error e => exact (hCX H e s' h).elim
    | ok fl =>
      cases fl with
      | next => exact False.elim h
      | brk => exact False.elim h
      | cont => exact False.elim h
      | ret u =>
        obtain ⟨v, H', os, bare, un, hok', r', q⟩ := h
        have q' : v = .bl true := q
        subst q'
        obtain rfl : u = Value.bool true := r'
        refine ⟨rfl, OldK.of_keep fun b o e => ?_, os, bare⟩
        cases q : H b with
        | none => exact un.keep b o e q (by intro z; exact absurd (show b ∈ ([] : List Addr) from z) (by simp)) (by simp)
        | some u =>
          rcases hO b with z | ⟨ob, xs, z⟩
          · rw [q] at z; cases z
          · have z2 := un.frzs b ob _ z
            obtain ⟨e1, _⟩ := hok b _ z
            obtain ⟨e2, _⟩ := hok' b _ z2
            rw [e] at e1; cases e1
            exact e2
  cases hk : K.lookup a with
  | some o =>
    -- the script is one of the module's own objects
    have e := KX a o hk
    rw [ha] at e
    cases e
    refine core (fun _ => none) (fun _ => .inl rfl) (.inr ⟨_, vs.toArray, _, hk, rfl, rfl, rfl, by rw [List.size_toArray, lenV]; exact hl, by simpa using rv⟩) (fun b u z => by have z' : (none : Option HO) = some u := z; cases z') (fun b z => absurd rfl z) fun z => absurd rfl z
  | none =>
    refine core (fun b => if b = a then some (.frz { cls := .type "list", data := .seq vs.toArray } (.lst (ns.map V.int))) else none) (fun b => ?_) (.inl (.inr ⟨{ cls := .type "list", data := .seq vs.toArray }, if_pos rfl⟩)) (fun b u z => ?_) (fun b z => ?_) fun _ => hk
    · by_cases hb : b = a
      · exact .inr ⟨_, _, if_pos hb⟩
      · exact .inl (if_neg hb)
    · by_cases hb : b = a
      · have z' := (if_pos hb).symm.trans z
        cases z'
        subst hb
        exact ⟨ha, by rw [List.length_map]; exact hl, vs, _, rv, ha⟩
      · have z' := (if_neg hb).symm.trans z
        cases z'
    · by_cases hb : b = a
      · exact hb
      · exact absurd (if_neg hb) z
end L2

namespace L2
open PySem PySem.Spec PyProof.Rows

noncomputable abbrev KOf {K : PySem.W.Frag} {h : Heap} (_ : K.In h) : PySem.W.Frag := K

/-- the goal that k_head leaves (case hc), from the law's promise. F gives the function object fd (K's own) once, then the promise over every base -/
theorem walk_of {l : PySem.W.OpenLaw} {n k : Nat} {q : Program} {loose : List Str} {XP : (Str → Option Value) → Heap → Prop} {YP : World → Heap → Prop} {d : DefRec} {K : Params → PySem.W.Frag} {CX : World → CXT} {sp : World → Sp} {x : Str}
    (hn : l.most = some n) (hn2 : n ≤ sizeLine) (hdf : d.params.defaults = []) (hr : Room k callerA)
    (hY : ∀ (w : World) (h : Heap), YP w h → (K w.params).In h)
    (F : ∀ (w : World) (mg : Str → Option Value) (fa : Addr) (h : Heap), (K w.params).In h → h.Ns mainGlobals mg → mg d.name = some (.ref fa) →
      ∃ fd : FuncData, (∀ (s : Shared) (u : Value), BindsTo s fd ⟨[u], []⟩ [(x, u)]) ∧
        ∀ base : Heap, (K w.params).In base → base.Ns mainGlobals mg → FnOk l.prog w (K w.params) mg base (CX w) k fa fd [x] (sp w))
    (hsp : ∀ (w : World) (H : Hp) (a : Addr) (ns : List Int), ns.length ≤ n → Only H → SqL (K w.params) H a (ns.map V.int) → sp w [.ref a] H (fun v _ => v = .bl true) fun _ _ _ => False)
    (hCX : ∀ (w : World) (H : Hp) (s : Shared) (e : Value) (s' : Shared), CX w [] H s (fun _ _ _ => False) e s' → False) :
    PySem.W.WalkO q loose XP YP l.row.toRowW d [] (fun f vs => PySem.call f vs) := by
  refine Att.attach_call hn hdf fun w s₀ s₁ mg mb fa o pm cd doc a vs ns G Y ho hd hcd hmg hobj hints hlen hg => ?_
  have KX := hY w _ Y
  obtain ⟨fd, hb, hF⟩ := F w mg fa _ KX G.T.g hmg
  exact law_call KX G.T.g G.T.b G.T.builtins G.T.nolimit hg hobj hints (Nat.le_trans hlen hn2) hr hF hb (fun H hO hS => hsp w H a ns hlen hO hS) fun H e s' => hCX w H s₁ e s'
end L2

/- THE LAST THEOREM (shape; LID, My.* are yours):
   My.Adr: a structure of the addresses that your layer names (classes, functions); My.Txt K t: a structure (Prop) of the equations over K;
   My.txt_mk : {K} {implicit addresses ..} (e1 : nsIn K mainGlobals "law" = some (some (.ref f))) (e2 : K.lookup f = some ⟨oc, od, .func (fnOf "law" "law" params body scope dV kV doc pm an cdv ct), sl⟩) (e3 : codeIn K cdv "law" = true) .. : ∃ t, My.Txt K t

set_option maxRecDepth 100000 in
set_option maxHeartbeats 0 in
theorem PySem.Challenge.cw_LID_holds : PySem.Challenge.rw_LID.Holds := by
  w_on; o_law; k_head; (case hw => w_witness2)
  k_fill
  refine L2.walk_of (l := PySem.Challenge.rw_LID) (n := 63) (k := 40) (x := "script") (CX := fun w => ..) (sp := fun _ => My.sp_law) rfl (by decide) rfl ⟨rfl, by decide, by decide⟩ (fun w h Y => PySem.W.kIn_of Y) ?F ?S ?C
  case F =>
    intro w mg fa h KX G hmg
    have T : ∃ t, My.Txt (L2.KOf KX) t := by
      dsimp only [L2.KOf]                          -- K must stand as «<heap const> w.params» for k_is
      refine' My.txt_mk ?e1 ?e2 ?e3 ..
      (case e1 => PySem.W.k_is)                    -- in the order: a name -> its address -> its object -> its parts
      (case e2 => PySem.W.k_is)
      ..
    obtain ⟨t, T⟩ := T
    have e0 := hmg.symm.trans (PySem.W.mg_of KX G T.law)
    cases e0                                       -- fa is the law's own address
    exact ⟨_, fun s u => .of_eq rfl, fun base kb nb => My.law_fn T kb nb⟩     -- if «.of_eq rfl» comes too early: refine' ⟨_, ?b, fun base kb nb => My.law_fn T kb nb⟩; exact fun s u => .of_eq rfl
  case S => exact fun w H a ns hl hO hS => ..
  case C => exact ..
(the tactic k_is has no namespace: write k_is) -/

/-! SHORT WORDS over the layer: a def of the text, its body, what a loop and a test want. -/
namespace L2
open PySem PySem.Spec PyProof.Rows

noncomputable def defArgs (s : Stmt) : Arguments := match s with
  | .FunctionDef _ a _ _ _ _ _ _ _ _ => a
  | _ => { posonlyargs := [], args := [], vararg := none, kwonlyargs := [], kw_defaults := [], kwarg := none, defaults := [] }
noncomputable def defBody (s : Stmt) : List Stmt := match s with
  | .FunctionDef _ _ b _ _ _ _ _ _ _ => b
  | _ => []
noncomputable def defScope (s : Stmt) : Scope := match s with
  | .FunctionDef _ _ _ _ _ _ sc _ _ _ => sc
  | _ => { kind := .function, names := [], isGenerator := false, isCoroutine := false }

/-! ### no exception leaves a def -/
noncomputable abbrev CX0 : CXT := fun _ _ _ _ _ _ => False
noncomputable abbrev E0 : XK := fun _ _ _ => False
theorem pass0 {X : Cx} : Passes CX0 X E0 := fun _ _ _ _ _ _ _ h => h.elim

/-! ### a def (or method) of the text as it stands behind the top -/
structure Fun (K : PySem.W.Frag) (x qual : Str) (st : Stmt) (f : Addr) (fd : FuncData) : Prop where
  ex : ∃ (oc : Value) (od : Option Addr) (kV doc pm : Value) (an : Option Addr) (cdv ct : Value) (osl : Array (Option Value)),
    fd = PySem.W.fnOf x qual (defArgs st) (defBody st) (defScope st) .none kV doc pm an cdv ct ∧ K.lookup f = some ⟨oc, od, .func fd, osl⟩ ∧ PySem.W.codeIn K cdv qual = true
  kp : PySem.W.keepIn K (.ref f) = true
section
variable {P : Program} {w : World} {K : PySem.W.Frag} {mg : Str → Option Value} {base : Heap}
/-- THE RULE for a def: its body as a term of rules, and the reading of that term -/
theorem Fun.ok {x qual : Str} {st : Stmt} {f : Addr} {fd : FuncData} {N ps : List Str} {k : Nat} {sp : Sp} (F : Fun K x qual st f fd) (S : FnScope N ps (defScope st)) (len : ∀ vs H Q E, sp vs H Q E → vs.length = ps.length)
    (hbody : ∀ (cdv : Value) (A : Around) (outer : List Env) (s : Shared) (H : Hp) (vs : List V) (Q : VK) (E : XK), Room k (A.deeper (envOfC qual (defScope st) s.heap.objs.size f cdv)) → sp vs H Q E →
      ∃ t, PSs (cxOf CX0 P w K mg base N qual (defScope st) f cdv A outer s H E).nox (defBody st) t ∧ t { nx := fun _ H' => Q .non H', rt := Q } (start N vs) H) : FnOk P w K mg base CX0 (k + 1) f fd ps sp := by
  obtain ⟨oc, od, kV, doc, pm, an, cdv, ct, osl, rfl, lk, hcd⟩ := F.ex
  refine fn_of lk hcd S len fun A outer s H vs Q E hr hsp => ?_
  obtain ⟨t, h, q⟩ := hbody cdv A outer s H vs Q E hr hsp
  exact ⟨t, h.nox, q⟩
/-- how its arguments bind (no defaults): h is «fun _ _ _ _ _ _ us hl => match us, hl with | [_, _], _ => rfl», one _ a parameter -/
theorem Fun.binds {x qual : Str} {st : Stmt} {f : Addr} {fd : FuncData} {ps : List Str} (F : Fun K x qual st f fd)
    (h : ∀ (kV doc pm : Value) (an : Option Addr) (cdv ct : Value) (us : List Value), us.length = ps.length → bindArgs (PySem.W.fnOf x qual (defArgs st) (defBody st) (defScope st) .none kV doc pm an cdv ct) ⟨us, []⟩ = pure (ps.zip us)) : Binds K fd ps [] := by
  obtain ⟨oc, od, kV, doc, pm, an, cdv, ct, osl, rfl, lk, hcd⟩ := F.ex
  exact .all (h kV doc pm an cdv ct)
theorem fun_mk {x qual : Str} {st : Stmt} {f : Addr} {oc : Value} {od an : Option Addr} {osl : Array (Option Value)} {kV doc pm cdv ct : Value} (l : K.lookup f = some ⟨oc, od, .func (PySem.W.fnOf x qual (defArgs st) (defBody st) (defScope st) .none kV doc pm an cdv ct), osl⟩)
    (c : PySem.W.codeIn K cdv qual = true) (k : PySem.W.keepIn K (.ref f) = true) : Fun K x qual st f (PySem.W.fnOf x qual (defArgs st) (defBody st) (defScope st) .none kV doc pm an cdv ct) := ⟨⟨oc, od, kV, doc, pm, an, cdv, ct, osl, rfl, l, c⟩, k⟩
end
theorem small1000 {n : Nat} (h : n ≤ 1000) : n < sizeLine := Nat.lt_of_le_of_lt h (by decide)

/-! ### expressions in short: the name that stands in the i-th slot -/
section
variable {X : Cx}
theorem pv (i : Nat) {x : Str} {pos : Pos} (hN : X.N[i]? = some x := by rfl) (hv : Vis X.env.scope x := by first | exact Or.inl rfl | exact Or.inr (Or.inl rfl) | exact Or.inr (Or.inr rfl)) (hd : (x == ("__debug__" : Str)) = false := by decide)
    (hcd : (x == ("__classdict__" : Str)) = false := by decide) : PE X (.Name x pos) (tVar i) := pe_var hN hv hd hcd
end

/-! ### tests -/
theorem iteF {A B : Prop} (h : B) : if false = true then A else B := by
  rw [if_neg Bool.false_ne_true]
  exact h
theorem iteT {A B : Prop} (h : A) : if true = true then A else B := by
  rw [if_pos rfl]
  exact h
/-! ### heaps -/
/-- all that was tracked is as it was -/
noncomputable def Same (H H' : Hp) : Prop := ∀ b o, H b = some o → H' b = some o
theorem Same.refl (H : Hp) : Same H H := fun _ _ h => h
theorem Same.trans {H H1 H2 : Hp} (a : Same H H1) (b : Same H1 H2) : Same H H2 := fun c o h => b c o (a c o h)
theorem Same.free {H H' : Hp} (e : Same H H') {l : Addr} (h : H' l = Option.none) : H l = Option.none := by
  cases q : H l with
  | none => rfl
  | some o =>
    rw [e l o q] at h
    cases h
theorem Same.seq {K : PySem.W.Frag} {H H' : Hp} {a : Addr} {xs : List V} (e : Same H H') (h : SqL K H a xs) : SqL K H' a xs := by
  rcases h with (h | ⟨o, h⟩) | h
  · exact .inl (.inl (e _ _ h))
  · exact .inl (.inr ⟨o, e _ _ h⟩)
  · exact .inr h

end L2

namespace L2
open PySem PySem.Spec PyProof.Rows
section
variable {X : Cx} {tg : Expr}
end
/-! ### isinstance(x, T) of flat values and made lists -/
section
variable {X : Cx}
theorem sub_tuple_tuple : isSubtype (.type "tuple") (.type "tuple") = pure true := by rw [isSubtype_type]; kernel_rfl
/-- a built-in type's name as a value -/
theorem pe_ty {x : Str} {T : String} {pos : Pos} (hg : Gl X x) (hm : X.mg x = none) (hv : bootBuiltins x = some (.type T)) (hn : x ≠ "__name__" := by decide) (hd : (x == ("__debug__" : Str)) = false := by decide) : PE X (.Name x pos) (tC (.ty T)) :=
  pe_bltn hg hm hv rfl hn hd
/-- all(xs), any(xs), xs a list of bools -/
theorem truth_of {prog : Program} {w : World} {A : Around} {bs : List Bool} {its : List Value} (rv : Vals (bs.map V.bl) its) : TruthOf prog w A (fun i v => its.toArray[i]? = some v) fun i => bs.getD i false := by
  intro i v s' Q' E' hv hQ
  have hv' : its[i]? = some v := by simpa using hv
  have hl := rv.length
  have hi : i < bs.length := by
    have := (List.getElem?_eq_some_iff.mp hv').1
    rw [List.length_map] at hl; omega
  obtain ⟨u, hu, ru⟩ := rv.get (i := i) (x := V.bl bs[i]) (by simp [hi])
  rw [hv'] at hu
  cases hu
  cases ru
  refine wpAny_truthy_bool ?_
  have e : bs.getD i false = bs[i] := by simp [List.getD, hi]
  have hQ' : Q' (bs.getD i false) s' := hQ
  rw [e] at hQ'; exact hQ'
theorem all_range (bs : List Bool) : ((List.range bs.length).all fun i => bs.getD i false) = bs.all id := by
  rw [Bool.eq_iff_iff]
  simp only [List.all_eq_true, List.mem_range, id]
  constructor
  · intro h x hx
    obtain ⟨i, hi, rfl⟩ := List.mem_iff_getElem.mp hx
    have := h i hi
    simpa [List.getD, hi] using this
  · intro h i hi
    have := h bs[i] (List.getElem_mem hi)
    simpa [List.getD, hi] using this
theorem call_allB (hc : X.calm = true) : CallR X (.builtin "all") (fun xs H Q => ∃ (a : Addr) (bs : List Bool), xs = [.ref a] ∧ SqL X.K H a (bs.map V.bl) ∧ Q (.bl (bs.all id)) H) := by
  intro pins s σ H xs us Q I r h
  obtain ⟨a, bs, rfl, hq, q⟩ := h
  obtain ⟨u, rfl, ru⟩ := vals1 r
  cases ru
  obtain ⟨its, rv, p, hz⟩ := I.list hq
  obtain ⟨o, ho, hc', n, hd⟩ := p.isList
  refine call_all_walk (wpAny_pyIter_list p.isList ?_)
  have hne : a ≠ s.heap.objs.size := Nat.ne_of_lt (Heap.lt_size ho)
  refine ⟨s.heap.objs.size, _, _, _, _, _, fun i => bs.getD i false, rfl, Walks.list (A := X.A.in1) (I.ok.hd hc) _ a hne its.toArray, ⟨⟨_, Heap.get?_push_size _ rfl, rfl, rfl⟩, p.isList.at fun o e => Heap.get?_push_of_some _ e⟩, truth_of rv, fun h' tk k => ?_⟩
  have hl := rv.length
  rw [List.length_map] at hl
  have e1 : ((List.range its.toArray.size).all fun i => bs.getD i false) = bs.all id := by rw [List.size_toArray, ← hl]; exact all_range bs
  rw [e1]
  refine ⟨.bl (bs.all id), H, I.kept fun b o e => k b o ?_ (Heap.get?_push_of_some _ e), rfl, q⟩
  intro z
  have z' : b = s.heap.objs.size := by simpa using z
  exact absurd (Heap.lt_size e) (by rw [z']; exact Nat.lt_irrefl _)
end
end L2

namespace L2
open PySem PySem.Spec PyProof.Rows
section
variable {X : Cx}
/-- // by a positive divisor of fewer than 9000 bits -/
noncomputable def CDivB (i j : Int) : Prop := 0 < j ∧ j.natAbs.log2 < 9000
theorem op_fdivB : OpR X (binaryOp .FloorDiv) (rI CDivB fun i j => .int (i / j)) := opI fun i j _ _ _ _ _ hc q => by
  have h1 : (0 : Int) < j := hc.1
  refine floordiv_int (by omega) ?_ (.inl (PyProof.noPylong_of_log2 hc.2))
  rw [Int.fdiv_eq_ediv_of_nonneg _ (by omega)]
  exact q
end
/-! ### how data lie -/
noncomputable abbrev Rp (α : Type) := PySem.W.Frag → Hp → V → α → Prop
noncomputable def rInt : Rp Int := fun _ _ v i => v = .int i
noncomputable def rBool : Rp Bool := fun _ _ v b => v = .bl b
noncomputable def rPr {α β : Type} (r : Rp α) (q : Rp β) : Rp (α × β) := fun K H v p => ∃ a x y, v = .ref a ∧ SqT K H a [x, y] ∧ r K H x p.1 ∧ q K H y p.2
/-- the list at a holds l -/
noncomputable def LsAt {α : Type} (r : Rp α) (K : PySem.W.Frag) (H : Hp) (a : Addr) (l : List α) : Prop := ∃ xs, SqL K H a xs ∧ Paired (r K H) xs l
noncomputable def rLs {α : Type} (r : Rp α) : Rp (List α) := fun K H v l => ∃ a, v = .ref a ∧ LsAt r K H a l
/-- a list that may be written -/
noncomputable def LsOwn {α : Type} (r : Rp α) (K : PySem.W.Frag) (H : Hp) (a : Addr) (l : List α) : Prop := ∃ xs, H a = some (.lst xs) ∧ Paired (r K H) xs l
theorem paired_len {α β : Type} {F : α → β → Prop} {l : List α} {m : List β} (h : Paired F l m) : l.length = m.length := Paired.length h
theorem paired_get {α β : Type} {F : α → β → Prop} : ∀ {l : List α} {m : List β} {i : Nat} {b : β}, Paired F l m → m[i]? = some b → ∃ a, l[i]? = some a ∧ F a b
  | _, _, _, _, .nil, e => by simp at e
  | _, _, 0, _, .cons r _, e => by simp at e; subst e; exact ⟨_, rfl, r⟩
  | _, _, i + 1, b, .cons _ t, e => by
    obtain ⟨u, h1, h2⟩ := paired_get (i := i) (b := b) t (by simpa using e)
    exact ⟨u, by simpa using h1, h2⟩
theorem paired_getL {α β : Type} {F : α → β → Prop} : ∀ {l : List α} {m : List β} {i : Nat} {a : α}, Paired F l m → l[i]? = some a → ∃ b, m[i]? = some b ∧ F a b
  | _, _, _, _, .nil, e => by simp at e
  | _, _, 0, _, .cons r _, e => by simp at e; subst e; exact ⟨_, rfl, r⟩
  | _, _, i + 1, b, .cons _ t, e => by
    obtain ⟨u, h1, h2⟩ := paired_getL (i := i) (a := b) t (by simpa using e)
    exact ⟨u, by simpa using h1, h2⟩
theorem paired_append {α β : Type} {F : α → β → Prop} : ∀ {l l' : List α} {m m' : List β}, Paired F l m → Paired F l' m' → Paired F (l ++ l') (m ++ m')
  | _, _, _, _, .nil, h => h
  | _, _, _, _, .cons r t, h => .cons r (paired_append t h)
theorem paired_take {α β : Type} {F : α → β → Prop} : ∀ {l : List α} {m : List β} (n : Nat), Paired F l m → Paired F (l.take n) (m.take n)
  | _, _, 0, _ => by simpa using Paired.nil
  | _, _, _ + 1, .nil => by simpa using Paired.nil
  | _, _, n + 1, .cons r t => by rw [List.take_succ_cons, List.take_succ_cons]; exact .cons r (paired_take n t)
theorem paired_drop {α β : Type} {F : α → β → Prop} : ∀ {l : List α} {m : List β} (n : Nat), Paired F l m → Paired F (l.drop n) (m.drop n)
  | _, _, 0, h => h
  | _, _, _ + 1, .nil => by simpa using Paired.nil
  | _, _, n + 1, .cons r t => paired_drop n t
theorem paired_ints {K : PySem.W.Frag} {H : Hp} : ∀ (l : List Int), Paired (rInt K H) (l.map V.int) l
  | [] => .nil
  | _ :: r => .cons rfl (paired_ints r)
theorem of_paired_bools {K : PySem.W.Frag} {H : Hp} : ∀ {xs : List V} {l : List Bool}, Paired (rBool K H) xs l → xs = l.map V.bl
  | _, _, .nil => rfl
  | _, _, .cons r t => by rw [List.map_cons, of_paired_bools t, show _ = _ from r]
/-! ### what stays: tuples (whatever else is written); everything -/
structure TupS (H H' : Hp) : Prop where
  tup : ∀ b xs, H b = some (.tup xs) → H' b = some (.tup xs)
  frz : ∀ b o u, H b = some (.frz o u) → H' b = some (.frz o u)
theorem TupS.refl (H : Hp) : TupS H H := ⟨fun _ _ h => h, fun _ _ _ h => h⟩
theorem TupS.trans {H H1 H2 : Hp} (a : TupS H H1) (b : TupS H1 H2) : TupS H H2 := ⟨fun c xs h => b.tup c xs (a.tup c xs h), fun c o u h => b.frz c o u (a.frz c o u h)⟩
theorem Same.tups {H H' : Hp} (e : Same H H') : TupS H H' := ⟨fun b xs h => e b _ h, fun b o u h => e b _ h⟩
theorem Same.new {H : Hp} {p : Addr} (h : H p = none) (o : HO) : Same H (upd H p o) := fun b u q => by rw [upd_ne (ne_of_none q h)]; exact q
theorem TupS.sqT {K : PySem.W.Frag} {H H' : Hp} {a : Addr} {xs : List V} (e : TupS H H') (h : SqT K H a xs) : SqT K H' a xs := by
  rcases h with (h | ⟨o, h⟩) | h
  · exact .inl (.inl (e.tup _ _ h))
  · exact .inl (.inr ⟨o, e.frz _ _ _ h⟩)
  · exact .inr h
theorem Same.sqT {K : PySem.W.Frag} {H H' : Hp} {a : Addr} {xs : List V} (e : Same H H') (h : SqT K H a xs) : SqT K H' a xs := e.tups.sqT h
/-- data of tuples alone: they stay whatever is written -/
noncomputable def Imm {α : Type} (r : Rp α) : Prop := ∀ K H H' v a, TupS H H' → r K H v a → r K H' v a
/-- data that stay as long as all that is tracked stays -/
noncomputable def Sta {α : Type} (r : Rp α) : Prop := ∀ K H H' v a, Same H H' → r K H v a → r K H' v a
theorem Imm.sta {α : Type} {r : Rp α} (h : Imm r) : Sta r := fun K H H' v a e => h K H H' v a e.tups
theorem imm_int : Imm rInt := fun _ _ _ _ _ _ h => h
theorem imm_pr {α β : Type} {r : Rp α} {q : Rp β} (h1 : Imm r) (h2 : Imm q) : Imm (rPr r q) := fun K H H' v p e ⟨a, x, y, ev, s, a1, a2⟩ => ⟨a, x, y, ev, e.sqT s, h1 _ _ _ _ _ e a1, h2 _ _ _ _ _ e a2⟩
theorem sta_pr {α β : Type} {r : Rp α} {q : Rp β} (h1 : Sta r) (h2 : Sta q) : Sta (rPr r q) := fun K H H' v p e ⟨a, x, y, ev, s, a1, a2⟩ => ⟨a, x, y, ev, e.sqT s, h1 _ _ _ _ _ e a1, h2 _ _ _ _ _ e a2⟩
theorem LsAt.same {α : Type} {r : Rp α} (hr : Sta r) {K : PySem.W.Frag} {H H' : Hp} {a : Addr} {l : List α} (h : LsAt r K H a l) (e : Same H H') : LsAt r K H' a l := by
  obtain ⟨xs, s, p⟩ := h
  exact ⟨xs, e.seq s, Paired.mapP p fun x y z => hr _ _ _ _ _ e z⟩
theorem sta_ls {α : Type} {r : Rp α} (hr : Sta r) : Sta (rLs r) := fun K H H' v l e ⟨a, ev, h⟩ => ⟨a, ev, h.same hr e⟩
theorem LsOwn.same {α : Type} {r : Rp α} (hr : Sta r) {K : PySem.W.Frag} {H H' : Hp} {a : Addr} {l : List α} (h : LsOwn r K H a l) (e : Same H H') : LsOwn r K H' a l := by
  obtain ⟨xs, s, p⟩ := h
  exact ⟨xs, e _ _ s, Paired.mapP p fun x y z => hr _ _ _ _ _ e z⟩
/-! ### == by data -/
open SeqAt (EqAt RcAt RcNeAt)
structure EqC {α : Type} [DecidableEq α] (r : Rp α) (n : Nat) : Prop where
  inj : ∀ {X : Cx} {pins : List (Addr × Obj)} {σ : St} {H : Hp} {s : Shared} {v : V} {a b : α}, Inv X pins σ H s → r X.K H v a → r X.K H v b → a = b
  eq : ∀ {X : Cx} {pins : List (Addr × Obj)} {σ : St} {H : Hp} {s : Shared} {x y : V} {u v : Value} {a b : α} (A : Around), Inv X pins σ H s → A.units + n < cLine → r X.K H x a → r X.K H y b → RelV x u → RelV y v → EqAt A s u v (decide (a = b))
theorem dec_beq {α : Type} [DecidableEq α] [BEq α] [LawfulBEq α] (a b : α) : decide (a = b) = (a == b) := by rw [Bool.eq_iff_iff]; simp
theorem eqc_int : EqC rInt 0 where
  inj := fun _ h1 h2 => by cases h1; cases h2; rfl
  eq := fun A _ _ h1 h2 r1 r2 => by
    cases h1; cases h2
    obtain ⟨t, rfl⟩ := r1
    obtain ⟨t', rfl⟩ := r2
    rw [dec_beq]
    exact EqAt.int_int _ _ _ _
theorem units_in1 (A : Around) : A.in1.units = A.units + 1 := rfl
section
variable {X : Cx} {pins : List (Addr × Obj)} {σ : St} {H : Hp} {s : Shared}
theorem rc_pr {α β : Type} [DecidableEq α] [DecidableEq β] {r : Rp α} {q : Rp β} {n : Nat} (h1 : EqC r n) (h2 : EqC q n) (A : Around) (I : Inv X pins σ H s) (hu : A.units + (n + 1) < cLine) {a b : Addr} {x y x' y' : V} {p p' : α × β}
    (s1 : SqT X.K H a [x, y]) (r1 : r X.K H x p.1) (q1 : q X.K H y p.2) (s2 : SqT X.K H b [x', y']) (r2 : r X.K H x' p'.1) (q2 : q X.K H y' p'.2) :
    ∃ (its its2 : Array Value) (e : Nat → Bool), s.heap.IsTuple a its ∧ s.heap.IsTuple b its2 ∧ (∀ j (h1 : j < its.size) (h2 : j < its2.size), EqAt A.in1 s its[j] its2[j] (e j)) ∧ ((List.range (min its.size its2.size)).all e && its.size == its2.size) = decide (p = p') := by
  obtain ⟨i1, v1, t1, _⟩ := I.tuple s1
  obtain ⟨i2, v2, t2, _⟩ := I.tuple s2
  obtain ⟨u1, w1, rfl, ru1, rw1⟩ := v1.two
  obtain ⟨u2, w2, rfl, ru2, rw2⟩ := v2.two
  refine ⟨_, _, fun j => if j = 0 then decide (p.1 = p'.1) else decide (p.2 = p'.2), t1, t2, fun j hj1 hj2 => ?_, ?_⟩
  · have hj : j = 0 ∨ j = 1 := by simp at hj1; omega
    rcases hj with rfl | rfl
    · exact h1.eq A.in1 I (by rw [units_in1]; omega) r1 r2 ru1 ru2
    · exact h2.eq A.in1 I (by rw [units_in1]; omega) q1 q2 rw1 rw2
  · obtain ⟨pa, pb⟩ := p
    obtain ⟨pa', pb'⟩ := p'
    show ((List.range 2).all _ && true) = _
    have e : List.range 2 = [0, 1] := rfl
    rw [e, Bool.eq_iff_iff]
    simp
theorem eqc_pr {α β : Type} [DecidableEq α] [DecidableEq β] {r : Rp α} {q : Rp β} {n : Nat} (h1 : EqC r n) (h2 : EqC q n) : EqC (rPr r q) (n + 1) where
  inj := fun {X pins σ H s v a b} I ⟨l, x, y, e, s1, r1, q1⟩ ⟨l', x', y', e', s2, r2, q2⟩ => by
    subst e
    cases e'
    have := I.tuple_inj s1 s2
    cases this
    exact Prod.ext (h1.inj I r1 r2) (h2.inj I q1 q2)
  eq := fun {X pins σ H s x y u v p p'} A I hu ⟨l, x1, y1, e, s1, r1, q1⟩ ⟨l', x', y', e', s2, r2, q2⟩ ru rv => by
    subst e e'
    cases ru
    cases rv
    by_cases hl : l = l'
    · subst hl
      have := I.tuple_inj s1 s2
      cases this
      have : p = p' := Prod.ext (h1.inj I r1 r2) (h2.inj I q1 q2)
      rw [decide_eq_true this]
      exact EqAt.same _
    · obtain ⟨its, its2, e, t1, t2, he, hd⟩ := rc_pr h1 h2 A I hu s1 r1 q1 s2 r2 q2
      rw [← hd]
      exact EqAt.of_refs hl (RcAt.tuples t1 t2 (by omega) he)
theorem all_get {α : Type} [DecidableEq α] (l m : List α) (h : l.length = m.length) : ((List.range l.length).all fun j => decide (l[j]? = m[j]?)) = decide (l = m) := by
  rw [Bool.eq_iff_iff]
  simp only [List.all_eq_true, List.mem_range, decide_eq_true_eq]
  constructor
  · intro q
    refine List.ext_getElem? fun i => ?_
    by_cases hi : i < l.length
    · exact q i hi
    · rw [List.getElem?_eq_none (by omega), List.getElem?_eq_none (by omega)]
  · rintro rfl i _
    rfl
theorem rc_ls {α : Type} [DecidableEq α] {r : Rp α} {n : Nat} (h1 : EqC r n) (A : Around) (I : Inv X pins σ H s) (hu : A.units + (n + 1) < cLine) {a b : Addr} {xs ys : List V} {l m : List α}
    (s1 : SqL X.K H a xs) (p1 : Paired (r X.K H) xs l) (s2 : SqL X.K H b ys) (p2 : Paired (r X.K H) ys m) (hl : l.length = m.length) :
    ∃ (its its2 : Array Value) (e : Nat → Bool), s.heap.IsList a its ∧ s.heap.IsList b its2 ∧ its.size = its2.size ∧ (∀ j (h1 : j < its.size) (h2 : j < its2.size), EqAt A.in1 s its[j] its2[j] (e j)) ∧ ((List.range its.size).all e) = decide (l = m) := by
  obtain ⟨i1, v1, t1, _⟩ := I.list s1
  obtain ⟨i2, v2, t2, _⟩ := I.list s2
  have l1 := v1.length
  have l2 := v2.length
  have l3 := paired_len p1
  have l4 := paired_len p2
  refine ⟨_, _, fun j => decide (l[j]? = m[j]?), t1.isList, t2.isList, by simp; omega, fun j hj1 hj2 => ?_, ?_⟩
  · have hj : j < l.length := by simp at hj1; omega
    have hj' : j < m.length := by omega
    have g1 : l[j]? = some l[j] := List.getElem?_eq_getElem hj
    have g2 : m[j]? = some m[j] := List.getElem?_eq_getElem hj'
    obtain ⟨x, ex, rx⟩ := paired_get p1 g1
    obtain ⟨y, ey, ry⟩ := paired_get p2 g2
    obtain ⟨u, eu, ru⟩ := v1.get ex
    obtain ⟨v, ev, rv⟩ := v2.get ey
    have e1 : i1.toArray[j] = u := by
      have : i1.toArray[j]? = some u := by simpa using eu
      rw [Array.getElem?_eq_getElem hj1] at this
      exact Option.some.inj this
    have e2 : i2.toArray[j] = v := by
      have : i2.toArray[j]? = some v := by simpa using ev
      rw [Array.getElem?_eq_getElem hj2] at this
      exact Option.some.inj this
    rw [e1, e2]
    have e3 : decide (l[j]? = m[j]?) = decide (l[j] = m[j]) := by rw [g1, g2]; simp
    show EqAt A.in1 s u v (decide (l[j]? = m[j]?))
    rw [e3]
    exact h1.eq A.in1 I (by rw [units_in1]; omega) rx ry ru rv
  · rw [← all_get l m hl]
    have : i1.toArray.size = l.length := by simp; omega
    rw [this]
theorem len_ne {xs ys : List V} {i1 i2 : List Value} (v1 : Vals xs i1) (v2 : Vals ys i2) (h : xs.length ≠ ys.length) : (i1.toArray.size != i2.toArray.size) = true := by
  have := v1.length; have := v2.length
  simp; omega
end
section
variable {X : Cx}
/-- ==, != of two lists of data, of two pairs; x in a list of data -/
noncomputable def rEqL {α : Type} [DecidableEq α] (r : Rp α) (K : PySem.W.Frag) (neg : Bool) : R2 := fun x y H Q => ∃ l m, rLs r K H x l ∧ rLs r K H y m ∧ Q (.bl (if neg then !decide (l = m) else decide (l = m))) H
theorem op_eqL {α : Type} [DecidableEq α] {r : Rp α} {n : Nat} (h : EqC r n) (hu : X.A.units + (n + 1) < cLine) : OpR X (compareOp .Eq) (rEqL r X.K false) := by
  intro pins s σ H x y v u Q I rx ry h0
  obtain ⟨l, m, ⟨a, rfl, xs, s1, p1⟩, ⟨b, rfl, ys, s2, p2⟩, q⟩ := h0
  cases rx
  cases ry
  by_cases hlen : l.length = m.length
  · obtain ⟨its, its2, e, t1, t2, hsz, he, hd⟩ := rc_ls h X.A I hu s1 p1 s2 p2 hlen
    refine SeqAt.eq_listAt t1 t2 hsz (by omega) he ⟨.bl (decide (l = m)), H, I, ?_, q⟩
    rw [hd]; rfl
  · obtain ⟨i1, v1, t1, _⟩ := I.list s1
    obtain ⟨i2, v2, t2, _⟩ := I.list s2
    have e : decide (l = m) = false := decide_eq_false fun z => hlen (by rw [z])
    have q' : Q (.bl (decide (l = m))) H := q
    rw [e] at q'
    exact SeqAt.eq_list_lengthsAt t1.isList t2.isList (len_ne v1 v2 (by rw [paired_len p1, paired_len p2]; exact hlen)) (by omega) ⟨.bl false, H, I, rfl, q'⟩
open Classical in
end
end L2

namespace L2
open PySem PySem.Spec PyProof.Rows
theorem Room.uni {k : Nat} {A : Around} (r : Room k A) {n : Nat} (h : n ≤ 100) : A.units + n < cLine := by have := r.un; omega
/-- a def of the text that keeps a promise, with all that a caller wants -/
structure Fn (P : Program) (w : World) (K : PySem.W.Frag) (mg : Str → Option Value) (base : Heap) (CX : CXT) (k : Nat) (x : Str) (ps : List Str) (sp : Sp) : Prop where
  ex : ∃ (f : Addr) (fd : FuncData), FnOk P w K mg base CX k f fd ps sp ∧ Binds K fd ps [] ∧ PySem.W.keepIn K (.ref f) = true ∧ mg x = some (.ref f)
theorem Same.upd {H H' : Hp} {p : Addr} (h : Same H H') (hp : H p = none) {o : HO} : Same H (L2.upd H' p o) := fun b u q => by rw [upd_ne (ne_of_none q hp)]; exact h b u q
/-- where a def of the text stands -/
structure At (K : PySem.W.Frag) (mg : Str → Option Value) (x : Str) (st : Stmt) (ps : List Str) : Prop where
  ex : ∃ (f : Addr) (fd : FuncData), Fun K x x st f fd ∧ Binds K fd ps [] ∧ mg x = some (.ref f)
section
variable {X : Cx} {CX : CXT} {x : Str} {ps : List Str} {sp : Sp} {E : XK} {p pos : Pos} {e : Expr} {es : List Expr} {t : TA} {j k : Nat}
theorem pe_callF (G : Fn X.prog X.w X.K X.mg X.base CX j x ps sp) (hr : Room k X.A) (hg : Gl X x) (hx : Passes CX X E) (ha : PA X (e :: es) t) (hj : j ≤ k := by decide)
    (hdb : (x == ("__debug__" : Str)) = false := by decide) (he : starEach (e :: es) X.env = (false, eval e X.env) :: starEach es X.env := by rfl) (hpl : (backTo pos (starEach es X.env)).any (·.1) = false := by rfl) :
    PE X (.Call (.Name x p) (e :: es) [] pos) (tCall sp [] E t) := by
  obtain ⟨f, fd, a, b, c, d⟩ := G.ex
  exact pe_call a (hr.mono hj) hg d c b .nil hx ha hdb he hpl
end
theorem Fn.of {P : Program} {w : World} {K : PySem.W.Frag} {mg : Str → Option Value} {base : Heap} {CX : CXT} {k : Nat} {x : Str} {st : Stmt} {ps : List Str} {sp : Sp} (A : At K mg x st ps)
    (h : ∀ {f : Addr} {fd : FuncData}, Fun K x x st f fd → FnOk P w K mg base CX k f fd ps sp) : Fn P w K mg base CX k x ps sp := by
  obtain ⟨f, fd, F, b, m⟩ := A.ex
  exact ⟨f, fd, h F, b, F.kp, m⟩
end L2
namespace L2
open PySem PySem.Spec PyProof.Rows
/-- a name of the file's top that holds a whole number -/
theorem pe_cst {X : Cx} {x : Str} {i : Int} {pos : Pos} (hg : Gl X x) (h : ∃ t, X.mg x = some (.int i t)) (hd : (x == ("__debug__" : Str)) = false := by decide) : PE X (.Name x pos) (tC (.int i)) := by
  obtain ⟨t, h⟩ := h
  exact pe_glob hg h ⟨_, rfl⟩ hd
end L2

namespace L2
open PySem PySem.Spec PyProof.Rows
/-! ### list comprehensions: one for, any tests -/
section
variable {prog : Program} {w : World} {A : Around} {R : Result → Shared → Prop} {s : Shared}
theorem compLoop_gen {elt target iter : Expr} {ifs : List Expr} {scope : Scope} {pos : Pos} {it acc : Value} {env : Env} (I : Nat → Shared → Prop)
    (turn : ∀ n s, I n s → wpAny (model prog w) A (pyNext it) (fun r s₁ => match r with
      | none => R (.ok .next) s₁
      | some v => wpAny (model prog w) A (letOwnedTupleGo target it v) (fun _ s₀ => wpAny (model prog w) A (assign target env v) (fun _ s₂ =>
          wpAny (model prog w) A (forIn ifs true fun c r => if r = true then do let ok ← isTrue c env (eval c env); pure (ForInStep.yield ok) else pure (ForInStep.yield r)) (fun ok s₃ =>
            if ok = true then wpAny (model prog w) A (eval elt env) (fun x s₄ =>
              wpAny (model prog w) A (call (.builtin "list.append") [acc, x]) (fun _ s₅ => ∃ m, m < n ∧ I m s₅) (fun _ _ => False) s₄) (fun _ _ => False) s₃
            else ∃ m, m < n ∧ I m s₃) (fun _ _ => False) s₂) (fun _ _ => False) s₀) (fun _ _ => False) s₁) (fun _ _ => False) s)
    (n : Nat) (h : I n s) :
    codeAny (model prog w) A (.compLoop (.ListComp elt [⟨target, iter, ifs, 0⟩] scope pos) 0 it acc env) R s := by
  refine codeAny_loop rfl I (fun n s hI => ?_) n h
  show wpAny _ A ((compTurn (.ListComp elt [⟨target, iter, ifs, 0⟩] scope pos) 0 it acc env).onRaise (fun x => do noteFrame x env; theTreesLotGoes x)) _ _ s
  refine wpAny_noted ?_
  rw [compTurn_list]
  refine wpAny_bind (wpAny_standAt (wpAny_bind (wpAny_mono (turn n s hI) (fun r s₁ h₁ => ?_) fun _ _ h' => h'.elim)))
  cases r with
  | none => exact wpAny_pure h₁
  | some v =>
    refine wpAny_bind (wpAny_mono h₁ (fun _ s₀ h₀ => ?_) fun _ _ h' => h'.elim)
    refine wpAny_bind (wpAny_mono h₀ (fun _ s₂ h₂ => wpAny_bind (wpAny_mono h₂ (fun ok s₃ h₃ => ?_) fun _ _ h' => h'.elim)) fun _ _ h' => h'.elim)
    cases ok with
    | false => exact wpAny_pure ⟨rfl, h₃⟩
    | true =>
      refine wpAny_bind (wpAny_bind (wpAny_mono h₃ (fun x s₄ h₄ => wpAny_bind (wpAny_mono h₄ (fun _ s₅ h₅ => ?_) fun _ _ h' => h'.elim)) fun _ _ h' => h'.elim))
      exact wpAny_pure (wpAny_pure ⟨rfl, h₅⟩)
end
/-- the cells that a block takes from around it -/
noncomputable def clOf (env : Env) : List (Str × NameKind) → List (Str × Addr) → List (Str × Addr)
  | [], acc => acc
  | (n, k) :: r, acc => if k == .free then clOf env r ((n, (env.cells.lookup n).getD 0) :: acc) else clOf env r acc
theorem closureFor_go {env : Env} : ∀ (l : List (Str × NameKind)) (acc : List (Str × Addr)), (∀ x ∈ l, x.2 = .free → ∃ c, env.cells.lookup x.1 = some c) →
    (forIn l acc (fun x (cs : List (Str × Addr)) => match x with
      | (name, kind) => if (kind == NameKind.free) = true then do let c ← cellOf env name; pure (ForInStep.yield ((name, c) :: cs)) else pure (ForInStep.yield cs)) : Sem (List (Str × Addr))) = pure (clOf env l acc)
  | [], acc, _ => rfl
  | (n, k) :: r, acc, h => by
    have hr := fun a => closureFor_go r a fun x hx => h x (List.mem_cons_of_mem _ hx)
    rw [List.forIn_cons]
    by_cases hk : (k == NameKind.free) = true
    · obtain ⟨c, hc⟩ := h (n, k) List.mem_cons_self (by simpa using hk)
      have e : cellOf env n = pure c := by unfold cellOf; rw [hc]
      simp only [hk, if_true, e, pure_bind]
      rw [hr]
      have hc' : env.cells.lookup n = some c := hc
      conv => rhs; unfold clOf
      rw [if_pos hk, hc']
      rfl
    · simp only [hk, if_false, Bool.false_eq_true, pure_bind]
      rw [hr]
      conv => rhs; unfold clOf
      rw [if_neg hk]
theorem closureFor_eq {env : Env} {scope : Scope} (h : ∀ x ∈ scope.names, x.2 = .free → ∃ c, env.cells.lookup x.1 = some c) : closureFor scope env = pure (clOf env scope.names []) := by
  show ((forIn scope.names ([] : List (Str × Addr)) (fun x (cs : List (Str × Addr)) => match x with
      | (name, kind) => if (kind == NameKind.free) = true then do let c ← cellOf env name; pure (ForInStep.yield ((name, c) :: cs)) else pure (ForInStep.yield cs)) : Sem (List (Str × Addr))) >>= fun cs => pure cs) = _
  rw [closureFor_go scope.names [] h, pure_bind]
theorem clOf_sub {env : Env} : ∀ (l : List (Str × NameKind)) (acc : List (Str × Addr)), (∀ x ∈ l, x.2 = .free → ∃ c, env.cells.lookup x.1 = some c) → (∀ x c, acc.lookup x = some c → env.cells.lookup x = some c) →
    ∀ x c, (clOf env l acc).lookup x = some c → env.cells.lookup x = some c
  | [], acc, _, ha => ha
  | (n, k) :: r, acc, h, ha => by
    unfold clOf
    by_cases hk : (k == NameKind.free) = true
    · rw [if_pos hk]
      obtain ⟨c, hc⟩ := h (n, k) List.mem_cons_self (by simpa using hk)
      refine clOf_sub r _ (fun x hx => h x (List.mem_cons_of_mem _ hx)) fun x d hd => ?_
      rw [List.lookup_cons] at hd
      cases e : x == n with
      | true =>
        rw [e] at hd
        have en : x = n := by simpa using e
        have hd' : (env.cells.lookup n).getD 0 = d := Option.some.inj hd
        rw [hc] at hd'
        rw [en, hc]
        exact congrArg some hd'
      | false =>
        rw [e] at hd
        exact ha x d hd
    · rw [if_neg hk]
      exact clOf_sub r _ (fun x hx => h x (List.mem_cons_of_mem _ hx)) ha
theorem clOf_has {env : Env} : ∀ (l : List (Str × NameKind)) (acc : List (Str × Addr)) (x : Str), ((x, NameKind.free) ∈ l ∨ ∃ c, acc.lookup x = some c) → ∃ c, (clOf env l acc).lookup x = some c
  | [], acc, x, h => by
    rcases h with h | h
    · cases h
    · exact h
  | (n, k) :: r, acc, x, h => by
    unfold clOf
    by_cases hk : (k == NameKind.free) = true
    · rw [if_pos hk]
      refine clOf_has r _ x ?_
      by_cases e : x = n
      · subst e
        exact .inr ⟨_, by rw [List.lookup_cons, beq_self_eq_true]⟩
      · rcases h with h | ⟨c, hc⟩
        · rcases List.mem_cons.mp h with h | h
          · exact absurd (Prod.mk.inj h).1 e
          · exact .inl h
        · refine .inr ⟨c, ?_⟩
          rw [List.lookup_cons]
          have : (x == n) = false := by simpa using e
          rw [this]; exact hc
    · rw [if_neg hk]
      refine clOf_has r _ x ?_
      rcases h with h | h
      · rcases List.mem_cons.mp h with h | h
        · have : k = NameKind.free := (Prod.mk.inj h).2.symm
          exact absurd (by rw [this]; rfl) hk
        · exact .inl h
      · exact .inr h
/-- what a block's names are, behind relabel -/
theorem relabel_kind {env : Env} : ∀ (names : List (Str × NameKind)) (x : Str) (k : NameKind),
    (names.map fun (n, k) => if (k == NameKind.free && env.scope.kind == .function && env.kindOf n == some .cell) then (n, NameKind.cell) else (n, k)).lookup x = some k →
    ∃ k0, names.lookup x = some k0 ∧ (k = k0 ∨ (k0 = .free ∧ k = .cell))
  | [], x, k, h => by simp at h
  | (n, k1) :: r, x, k, h => by
    have ih := @relabel_kind env r x k
    have h' : List.lookup x ((if (k1 == NameKind.free && env.scope.kind == .function && env.kindOf n == some .cell) = true then (n, NameKind.cell) else (n, k1)) :: (r.map fun (n, k) => if (k == NameKind.free && env.scope.kind == .function && env.kindOf n == some .cell) then (n, NameKind.cell) else (n, k))) = some k := h
    cases hx : x == n with
    | true =>
      refine ⟨k1, by rw [List.lookup_cons, hx], ?_⟩
      by_cases hc : (k1 == NameKind.free && env.scope.kind == .function && env.kindOf n == some .cell) = true
      · rw [if_pos hc, List.lookup_cons, hx] at h'
        have : k1 = .free := by
          simp only [Bool.and_eq_true, beq_iff_eq] at hc
          exact hc.1.1
        exact .inr ⟨this, (Option.some.inj h').symm⟩
      · rw [if_neg hc, List.lookup_cons, hx] at h'
        exact .inl (Option.some.inj h').symm
    | false =>
      by_cases hc : (k1 == NameKind.free && env.scope.kind == .function && env.kindOf n == some .cell) = true
      · rw [if_pos hc, List.lookup_cons, hx] at h'
        obtain ⟨k0, a, b⟩ := ih h'
        exact ⟨k0, by rw [List.lookup_cons, hx]; exact a, b⟩
      · rw [if_neg hc, List.lookup_cons, hx] at h'
        obtain ⟨k0, a, b⟩ := ih h'
        exact ⟨k0, by rw [List.lookup_cons, hx]; exact a, b⟩
/-- a state with fewer names known -/
inductive Wk : St → St → Prop
  | nil : Wk [] []
  | cn {s t : St} {x : Option V} : Wk s t → Wk (none :: s) (x :: t)
  | cs {s t : St} {v : V} : Wk s t → Wk (some v :: s) (some v :: t)
theorem Wk.len : ∀ {s t : St}, Wk s t → s.length = t.length
  | _, _, .nil => rfl
  | _, _, .cn h => by rw [List.length_cons, List.length_cons, h.len]
  | _, _, .cs h => by rw [List.length_cons, List.length_cons, h.len]
theorem Wk.get : ∀ {s t : St}, Wk s t → ∀ (i : Nat) v, s[i]? = some (some v) → t[i]? = some (some v)
  | _, _, .nil, i, v, e => by simp at e
  | _, _, .cn h, 0, v, e => by simp at e
  | _, _, .cn h, i + 1, v, e => by simpa using h.get i v (by simpa using e)
  | _, _, .cs h, 0, v, e => by simpa using e
  | _, _, .cs h, i + 1, v, e => by simpa using h.get i v (by simpa using e)
theorem Wk.refl : ∀ (s : St), Wk s s
  | [] => .nil
  | none :: s => .cn (Wk.refl s)
  | some v :: s => .cs (Wk.refl s)
/-- the context of a comprehension's block: its own names, then those it takes from around it -/
noncomputable def cxC (X : Cx) (N : List Str) (scope : Scope) (s3 : Shared) (H3 : Hp) (fp : List Addr) : Cx :=
  { X with N := N, s₀ := s3, H₀ := H3, env := compEnvC scope (clOf X.env scope.names []) s3.heap.objs.size X.env, outer := X.stack, ex := fp, fn := fun _ => false, pn := [], xe := fun _ _ => False }
/-- the tests -/
noncomputable def PIf (X : Cx) (ifs : List Expr) (t : TT) : Prop :=
  ∀ (pins : List (Addr × Obj)) (s : Shared) (σ : St) (H : Hp) (Q : Bool → Hp → Prop), Inv X pins σ H s → t σ H Q →
    wpAny (model X.prog X.w) X.A (forIn ifs true fun c r => if r = true then do let ok ← isTrue c X.env (eval c X.env); pure (ForInStep.yield ok) else pure (ForInStep.yield r)) (TP X pins σ Q) X.xe s
noncomputable def tNoIf : TT := fun _ H Q => Q true H
theorem pif_nil {X : Cx} : PIf X [] tNoIf := fun pins s σ H Q I h => wpAny_pure ⟨H, I, h⟩
/-- what the block starts from -/
noncomputable def st0 (own : List Str) (fr : List (Str × Nat)) (σ : St) : St := own.map (fun _ => none) ++ fr.map fun p => σ.getD p.2 none
noncomputable def CompR (own : List Str) (fr : List (Str × Nat)) (g : TG) (tc : TT) (te : TE) (σ : St) (Q : VK) : It → Hp → Prop := fun J H1 => ∀ D, H1 D = none →
  ∃ W : Nat → Nat → List V → Hp → Prop, (∃ m, W 0 m [] (upd H1 D (.lst []))) ∧ ∀ i m ys H2, W i m ys H2 → H2 D = some (.lst ys) ∧
    ((J.stop i H2 ∧ Q (.ref D) H2) ∨ (J.go i H2 ∧ ys.length < sizeLine ∧ ∃ N : List V → Hp → Prop, (∀ zs H', N zs H' → ∃ m', m' < m ∧ W (i + 1) m' zs H') ∧ ∀ x H3, J.yld i H2 x H3 → g x (st0 own fr σ) H3 fun σ2 H4 => Wk (st0 own fr σ) σ2 ∧ tc σ2 H4 fun b H5 =>
      if b = true then te σ2 H5 fun v H6 => H6 D = some (.lst ys) ∧ N (ys ++ [v]) (upd H6 D (.lst (ys ++ [v]))) else N ys H5))
noncomputable def tComp (own : List Str) (fr : List (Str × Nat)) (wi : TI) (g : TG) (tc : TT) (te : TE) : TE := fun σ H Q => wi σ H (CompR own fr g tc te σ Q)
noncomputable def frOk (X : Cx) (scope : Scope) (fr : List (Str × Nat)) : Bool :=
  fr.all fun p => X.N[p.2]? == some p.1 && (X.env.kindOf p.1 == some .cell || X.env.kindOf p.1 == some .free) && scope.names.contains (p.1, .free)
noncomputable def scOk (X : Cx) (scope : Scope) : Bool :=
  (scope.names.all fun p => p.2 != .cell && (p.2 != .free || (X.env.kindOf p.1 == some .cell || X.env.kindOf p.1 == some .free)) && scope.names.lookup p.1 == some p.2) && scope.kind == .function
theorem visK {X : Cx} {x : Str} (h : (X.env.kindOf x == some .cell || X.env.kindOf x == some .free) = true) : X.env.kindOf x = some .cell ∨ X.env.kindOf x = some .free := by
  rcases Bool.or_eq_true _ _ ▸ h with h | h
  · exact .inl (by simpa using h)
  · exact .inr (by simpa using h)
theorem scFree {X : Cx} {scope : Scope} {pins : List (Addr × Obj)} {σ : St} {H : Hp} {s : Shared} (hs : scOk X scope = true) (I : Inv X pins σ H s) : ∀ x ∈ scope.names, x.2 = .free → ∃ c, X.env.cells.lookup x.1 = some c := fun p hp hf => by
  unfold scOk at hs
  have h1 := List.all_eq_true.mp (Bool.and_eq_true _ _ ▸ hs).1 p hp
  simp only [Bool.and_eq_true, Bool.or_eq_true] at h1
  rcases h1.1.2 with h2 | h2
  · rw [hf] at h2; cases h2
  · exact I.ok.has p.1 (visK (by rw [Bool.or_eq_true]; exact h2))
theorem scKind {X : Cx} {scope : Scope} (hs : scOk X scope = true) : scope.kind = .function := by
  unfold scOk at hs
  have := (Bool.and_eq_true _ _ ▸ hs).2
  cases h : scope.kind <;> rw [h] at this <;> first | rfl | cases this
theorem scCell {X : Cx} {scope : Scope} (hs : scOk X scope = true) : ∀ x ∈ scope.names, x.2 ≠ .cell := fun p hp he => by
  unfold scOk at hs
  have h1 := List.all_eq_true.mp (Bool.and_eq_true _ _ ▸ hs).1 p hp
  simp only [Bool.and_eq_true] at h1
  have h2 := h1.1.1
  rw [he] at h2; cases h2
theorem scLocal {X : Cx} {scope : Scope} (hs : scOk X scope = true) : ∀ x ∈ scope.names, x.2 = .local → scope.names.lookup x.1 = some .local := fun p hp he => by
  unfold scOk at hs
  have h1 := List.all_eq_true.mp (Bool.and_eq_true _ _ ▸ hs).1 p hp
  simp only [Bool.and_eq_true, Bool.or_eq_true] at h1
  rw [← he]
  simpa using h1.2
theorem relFree {X : Cx} {scope : Scope} (hs : scOk X scope = true) {x : Str} (hf : (x, NameKind.free) ∈ scope.names) (hl : scope.names.lookup x = some .local) : False := by
  unfold scOk at hs
  have h1 := List.all_eq_true.mp (Bool.and_eq_true _ _ ▸ hs).1 _ hf
  simp only [Bool.and_eq_true, Bool.or_eq_true] at h1
  have h2 : scope.names.lookup x = some .free := by simpa using h1.2
  rw [hl] at h2; cases h2
section
variable {X : Cx}
/-- the block's state at its start -/
theorem inv_comp {pins : List (Addr × Obj)} {σ : St} {H3 : Hp} {s3 : Shared} {own : List Str} {fr : List (Str × Nat)} {scope : Scope} {fp : List Addr} {h' : Heap} {tk : Nat} {m : Str → Option Value}
    (hs : scOk X scope = true) (hf : frOk X scope fr = true) (I : Inv X pins σ H3 s3) (hfp : ∀ b ∈ fp, FpOk X pins H3 b) (hob : ∀ b ∈ fp, ∃ o, s3.heap.get? b = some o ∧ ∀ v, o.data ≠ .cell v)
    (hn : h'.Ns s3.heap.objs.size m) (k : ∀ b o, s3.heap.get? b = some o → h'.get? b = some o) :
    Inv (cxC X (own ++ fr.map (·.1)) scope s3 H3 fp) [] (st0 own fr σ) H3 { s3 with heap := h', toks := tk } := by
  have fre := scFree hs I
  have I4 : Inv X pins σ H3 { s3 with heap := h', toks := tk } := I.kept k
  have sub : ∀ x c, (clOf X.env scope.names []).lookup x = some c → X.env.cells.lookup x = some c := clOf_sub scope.names [] fre (by intro x c h; simp at h)
  refine ⟨⟨I.ok.mod, (by show scope.kind = .function; exact scKind hs), I.ok.glob, I.ok.blt, Nat.le_refl _, fun x y c e1 e2 => I.ok.inj x y c (sub x c e1) (sub y c e2), fun x hx => ?_, fun x c hx => absurd (show false = true from hx) Bool.false_ne_true, I.ok.hd, I.ok.frames, .inl rfl,
    fun b hb => ⟨?_, fun x c e => (hfp b hb).2.2.2.2.1 x c (sub x c e)⟩, I.bs, Nat.le_trans I.ok.bsz I.sz, fun b o e hb => ?_, fun b hb z => ?_, I.stack, I.stkFree⟩,
    rfl, I.bare, Un.kept k, ⟨m, hn, fun i x v e1 e2 e3 => ?_⟩, fun x c e => I4.cell x c (sub x c e), I.hok.fresh (Nat.le_refl _), fun x c e => I.freeC x c (sub x c e), fun p hp => absurd (show p ∈ ([] : List (Addr × Obj)) from hp) (by simp), I.hok.kept k, ?_⟩
  · -- has
    have hx' : (relabel scope X.env).names.lookup x = some .cell ∨ (relabel scope X.env).names.lookup x = some .free := hx
    have key : ∀ k0, (relabel scope X.env).names.lookup x = some k0 → (k0 = .cell ∨ k0 = .free) → (x, NameKind.free) ∈ scope.names := fun k0 e hk => by
      obtain ⟨k1, h1, h2⟩ := relabel_kind scope.names x k0 e
      have hm := PySem.mem_of_lookup h1
      rcases h2 with h2 | ⟨h2, _⟩
      · subst h2
        rcases hk with hk | hk
        · exact absurd hk (scCell hs _ hm)
        · rw [hk] at hm; exact hm
      · rw [h2] at hm; exact hm
    rcases hx' with e | e
    · exact clOf_has _ _ x (.inl (key _ e (.inl rfl)))
    · exact clOf_has _ _ x (.inl (key _ e (.inr rfl)))
  · obtain ⟨o, ho, _⟩ := hob b hb
    exact Nat.ne_of_lt (Heap.lt_size ho)
  · -- noex
    have hb' : b ∈ fp := hb
    obtain ⟨_, _, _, h3, _⟩ := hfp b hb'
    rcases h3 with h3 | h3
    · exact I.ok.noex b o e h3
    · exact absurd (Nat.lt_of_lt_of_le (Heap.lt_size (I.ok.bs b o e).1) h3) (Nat.lt_irrefl _)
  · have hb' : b ∈ fp := hb
    obtain ⟨_, h1, h2, _⟩ := hfp b hb'
    rcases List.mem_cons.mp (I.stkSub b z) with q | q
    · exact h1 q
    · exact h2 q
  · -- the names
    have e2' : (st0 own fr σ)[i]? = some (some v) := e2
    have e1' : (own ++ fr.map (·.1))[i]? = some x := e1
    unfold st0 at e2'
    by_cases hi : i < own.length
    · rw [List.getElem?_append_left (by simpa using hi), List.getElem?_map] at e2'
      rw [List.getElem?_eq_getElem hi] at e2'
      cases e2'
    · rw [List.getElem?_append_right (by simpa using hi), List.getElem?_map, List.length_map] at e2'
      rw [List.getElem?_append_right (by simpa using hi), List.getElem?_map] at e1'
      cases hp : fr[i - own.length]? with
      | none => rw [hp] at e1'; cases e1'
      | some p =>
        rw [hp] at e1' e2'
        have ex : p.1 = x := Option.some.inj e1'
        have ev : σ.getD p.2 none = some v := Option.some.inj e2'
        have hpm : p ∈ fr := List.mem_of_getElem? hp
        have h1 := List.all_eq_true.mp hf p hpm
        simp only [Bool.and_eq_true] at h1
        have hN : X.N[p.2]? = some p.1 := by simpa using h1.1.1
        have hk := visK h1.1.2
        have hfree : (p.1, NameKind.free) ∈ scope.names := by simpa using h1.2
        have hσ : σ[p.2]? = some (some v) := by
          rw [List.getD_eq_getElem?_getD] at ev
          cases hq : σ[p.2]? with
          | none => rw [hq] at ev; cases ev
          | some o => rw [hq] at ev; exact congrArg some ev
        obtain ⟨m0, hn0, hl0⟩ := I4.loc
        have hv : Vis X.env.scope p.1 := by
          rcases hk with z | z
          · exact .inr (.inl z)
          · exact .inr (.inr z)
        obtain ⟨u, ru, lk⟩ := hl0 p.2 p.1 v hN hσ hv
        refine ⟨u, ru, ?_⟩
        rcases lk with ⟨z, _⟩ | ⟨_, c, hc, hcell⟩
        · rcases hk with q | q
          · rw [q] at z; cases z
          · rw [q] at z; cases z
        · obtain ⟨c', hc'⟩ := clOf_has (env := X.env) scope.names [] x (.inl (by rw [← ex]; exact hfree))
          have hcc := sub x c' hc'
          rw [← ex, hc] at hcc
          have hcc' : c = c' := Option.some.inj hcc
          refine .inr ⟨?_, c', hc', by rw [← hcc']; exact hcell⟩
          -- its kind in the block
          have e3' : (relabel scope X.env).names.lookup x = some .local ∨ (relabel scope X.env).names.lookup x = some .cell ∨ (relabel scope X.env).names.lookup x = some .free := e3
          rcases e3' with z | z | z
          · exfalso
            obtain ⟨k1, q1, q2⟩ := relabel_kind scope.names x .local z
            have hk1 : k1 = .local := by
              rcases q2 with q | ⟨_, q⟩
              · exact q.symm
              · cases q
            rw [hk1] at q1
            exact relFree hs (ex ▸ hfree) q1
          · exact .inl z
          · exact .inr z
  · show (st0 own fr σ).length = (own ++ fr.map (·.1)).length
    unfold st0
    rw [List.length_append, List.length_append, List.length_map, List.length_map, List.length_map]
end
end L2

namespace L2
open PySem PySem.Spec PyProof.Rows
section
variable {X : Cx}
/-- the loop of the block; the end's wish R -/
theorem comp_loop {own : List Str} {fr : List (Str × Nat)} {g : TG} {tc : TT} {te : TE} {elt target iter : Expr} {ifs : List Expr} {scope : Scope} {pos : Pos} {σ : St} {s3 s4 : Shared} {H3 : Hp} {fp : List Addr} {it D : Addr} {tn : Nat → Heap → Prop} {J : It} {R : Result → Shared → Prop}
    (hc : X.calm = true) (T : Turn X.prog X.w X.K target J fp it tn)
    (hg : PG (cxC X (own ++ fr.map (·.1)) scope s3 H3 fp) target g) (hif : PIf (cxC X (own ++ fr.map (·.1)) scope s3 H3 fp) ifs tc) (he : PE (cxC X (own ++ fr.map (·.1)) scope s3 H3 fp) elt te)
    (W : Nat → Nat → List V → Hp → Prop) (m0 : Nat) (w0 : W 0 m0 [] H3)
    (turn : ∀ i m ys H2, W i m ys H2 → H2 D = some (.lst ys) ∧
      ((J.stop i H2 ∧ ∀ s', Inv (cxC X (own ++ fr.map (·.1)) scope s3 H3 fp) [] (st0 own fr σ) H2 s' → R (.ok .next) s') ∨ (J.go i H2 ∧ ys.length < sizeLine ∧ ∃ N : List V → Hp → Prop, (∀ zs H', N zs H' → ∃ m', m' < m ∧ W (i + 1) m' zs H') ∧ ∀ x H3, J.yld i H2 x H3 → g x (st0 own fr σ) H3 fun σ2 H4 => Wk (st0 own fr σ) σ2 ∧ tc σ2 H4 fun b H5 =>
        if b = true then te σ2 H5 fun v H6 => H6 D = some (.lst ys) ∧ N (ys ++ [v]) (upd H6 D (.lst (ys ++ [v]))) else N ys H5)))
    (I0 : Inv (cxC X (own ++ fr.map (·.1)) scope s3 H3 fp) [] (st0 own fr σ) H3 s4) (st0' : tn 0 s4.heap) (fr0 : ∀ b ∈ fp, FpOk (cxC X (own ++ fr.map (·.1)) scope s3 H3 fp) [] H3 b) :
    codeAny (model X.prog X.w) X.A (.compLoop (.ListComp elt [⟨target, iter, ifs, 0⟩] scope pos) 0 (.ref it) (.ref D) (cxC X (own ++ fr.map (·.1)) scope s3 H3 fp).env) R s4 := by
  generalize hX : cxC X (own ++ fr.map (·.1)) scope s3 H3 fp = Y at *
  have eP : Y.prog = X.prog := by rw [← hX]; rfl
  have ew : Y.w = X.w := by rw [← hX]; rfl
  have eK : Y.K = X.K := by rw [← hX]; rfl
  have eA : Y.A = X.A := by rw [← hX]; rfl
  have eE : Y.xe = fun _ _ => False := by rw [← hX]; rfl
  have hcY : Y.calm = true := by rw [← hX]; exact hc
  have stat : ∀ {H' : Hp}, (∀ b ∈ fp, H' b = none) → ∀ b ∈ fp, FpOk Y [] H' b := fun hn b hb => ⟨hn b hb, (fr0 b hb).2⟩
  refine compLoop_gen (fun n s' => ∃ i ys H', Inv Y [] (st0 own fr σ) H' s' ∧ tn i s'.heap ∧ (∀ b ∈ fp, H' b = none) ∧ W i n ys H') ?_ m0 ⟨0, [], H3, I0, st0', fun b hb => (fr0 b hb).1, w0⟩
  rintro n s5 ⟨i, ys, H5, I5, st5, fr5, w5⟩
  obtain ⟨hD, turn⟩ := turn i n ys H5 w5
  have again : ∀ {σ7 : St} {H7 : Hp} {s6 s7 : Shared} {zs : List V}, Wk (st0 own fr σ) σ7 → tn (i + 1) s6.heap → Inv Y ([] ++ pinsAt fp s6.heap) σ7 H7 s7 → (∃ m', m' < n ∧ W (i + 1) m' zs H7) → ∃ m, m < n ∧ ∃ i ys H', Inv Y [] (st0 own fr σ) H' s7 ∧ tn i s7.heap ∧ (∀ b ∈ fp, H' b = none) ∧ W i m ys H' := fun {σ7 H7 s6 s7 zs} wk st6 I7 ⟨m', hm, w7⟩ => by
    refine ⟨m', hm, i + 1, zs, H7, I7.unpinned.weak wk.len wk.get, T.keep _ _ _ st6 fun b hb o e => (I7.pin (b, o) (List.mem_append_right _ (List.mem_append_right _ (mem_pinsAt hb e)))).1, fun b hb => ?_, w7⟩
    obtain ⟨o, e, d⟩ := T.obj _ _ st6 b hb
    exact (I7.pin (b, o) (List.mem_append_right _ (List.mem_append_right _ (mem_pinsAt hb e)))).2.1
  rcases turn with ⟨stop, qn⟩ | ⟨go, hlen, N, hN, step⟩
  · have h1 := T.done Y eP ew eK hcY i [] s5 (st0 own fr σ) H5 (fun _ _ => False) I5 (stat fr5) st5 stop
    rw [eA] at h1
    refine thn h1 fun r s6 ⟨hr, I6⟩ => ?_
    subst hr
    exact qn s6 I6
  · have h1 := T.item Y eP ew eK hcY i [] s5 (st0 own fr σ) H5 (fun _ _ => False) I5 (stat fr5) st5 go
    rw [eA] at h1
    refine thn h1 fun r s6 ⟨u, hr, h6⟩ => ?_
    subst hr
    refine thn h6 fun _ s7 ⟨x, H7, I7, r7, y7, st7, fr7⟩ => ?_
    have I7' := I7.pinned (stat fr7) (T.obj _ _ st7)
    have h8 := hg _ s7 (st0 own fr σ) H7 x u _ I7' r7 (step x H7 y7)
    rw [eA, eE, eP, ew] at h8
    refine thn h8 fun _ s8 ⟨σ8, H8, I8, wk, q8⟩ => ?_
    have h9 := hif _ s8 σ8 H8 _ I8 q8
    rw [eA, eE, eP, ew] at h9
    refine thn h9 fun ok s9 ⟨H9, I9, q9⟩ => ?_
    cases ok with
    | false => exact again wk st7 I9 (hN _ _ q9)
    | true =>
      have h10 := he _ s9 σ8 H9 _ I9 q9
      rw [eA, eE, eP, ew] at h10
      refine thn h10 fun xv s10 ⟨v, H10, I10, r10, hD10, q10⟩ => ?_
      have h11 := mt_append (X := Y) _ s10 σ8 H10 (.ref D) [v] (.ref D) [xv] (fun _ H11 => N (ys ++ [v]) H11) I10 rfl (.cons r10 .nil) ⟨D, ys, v, rfl, rfl, hD10, hlen, q10⟩
      rw [eA, eE, eP, ew] at h11
      exact thn h11 fun _ s11 ⟨_, H11, I11, _, q11⟩ => again wk st7 I11 (hN _ _ q11)
theorem sameBut_kept {C : Addr} {h h1 h2 : Heap} (hC : h.objs.size ≤ C) (k : ∀ b o, h.get? b = some o → h1.get? b = some o) (sb : Heap.SameBut C h1 h2) : ∀ b o, h.get? b = some o → h2.get? b = some o :=
  fun b o e => (sb.2 b (Nat.ne_of_lt (Nat.lt_of_lt_of_le (Heap.lt_size e) hC))).trans (k b o e)
/-- [elt for target in iter if ..] -/
theorem pe_comp {own : List Str} {fr : List (Str × Nat)} {wi : TI} {g : TG} {tc : TT} {te : TE} {elt target iter : Expr} {ifs : List Expr} {scope : Scope} {pos : Pos} (hc : X.calm = true) (hi : PI X target iter wi)
    (hg : ∀ s3 H3 fp, PG (cxC X (own ++ fr.map (·.1)) scope s3 H3 fp) target g) (hif : ∀ s3 H3 fp, PIf (cxC X (own ++ fr.map (·.1)) scope s3 H3 fp) ifs tc) (he : ∀ s3 H3 fp, PE (cxC X (own ++ fr.map (·.1)) scope s3 H3 fp) elt te)
    (hs : scOk X scope = true := by rfl) (hf : frOk X scope fr = true := by rfl) (hfs : ∀ x, foldedSetIterable iter X.env x = pure x := by intro _; rfl) :
    PE X (.ListComp elt [⟨target, iter, ifs, 0⟩] scope pos) (tComp own fr wi g tc te) := by
  intro pins s σ H Q I h
  rw [eval_ListComp]
  refine wpAny_comprehension_free (use := none) rfl hfs (closureFor_eq (scFree hs I)) (scKind hs) (scLocal hs) ?_
  refine thn (hi pins s σ H _ I h) fun v s1 h1 => thn h1 fun itv s2 h2 => ?_
  obtain ⟨it, fp, tn, J, H2, e, I2, T, st2, f2, q⟩ := h2
  subst e
  obtain ⟨W, ⟨m0, w0⟩, turn⟩ := q s2.heap.objs.size (I2.hok.fresh (Nat.le_refl _))
  have I3 : Inv X pins σ (upd H2 s2.heap.objs.size (.lst [])) { s2 with heap := s2.heap.push { cls := .type "list", dict := none, data := .seq ([] : List Value).toArray } } := I2.lnew (t' := s2.toks) (ys := []) .nil (Nat.zero_le _)
  have ob2 := T.obj _ _ st2
  have fne : ∀ b ∈ fp, b ≠ s2.heap.objs.size := fun b hb => by
    obtain ⟨o, ho, _⟩ := ob2 b hb
    exact Nat.ne_of_lt (Heap.lt_size ho)
  have f3 : ∀ b ∈ fp, FpOk X pins (upd H2 s2.heap.objs.size (.lst [])) b := fun b hb => ⟨by rw [upd_ne (fne b hb)]; exact (f2 b hb).1, (f2 b hb).2⟩
  refine wpAny_newObj_type (wpAny_newFunctionEnv (scCell hs) (by intro y hy; simp at hy) (fun h₁ hns₁ hsb₁ => ?_) (scKind hs))
  dsimp only at hns₁ hsb₁ ⊢
  generalize hs3 : ({ s2 with heap := s2.heap.push { cls := .type "list", dict := none, data := .seq ([] : List Value).toArray } } : Shared) = s3 at I3
  have hs3h : s3.heap = s2.heap.push { cls := .type "list", dict := none, data := .seq ([] : List Value).toArray } := by rw [← hs3]
  generalize hH3 : upd H2 s2.heap.objs.size (.lst []) = H3 at I3 f3 w0
  have k1 : ∀ b o, s3.heap.get? b = some o → h₁.get? b = some o := fun b o e => by
    rw [← hs3h] at hsb₁
    exact sameBut_kept (Nat.le_refl _) (fun b o e => Heap.get?_push_of_some _ e) hsb₁ b o e
  have ob3 : ∀ b ∈ fp, ∃ o, s3.heap.get? b = some o ∧ ∀ v, o.data ≠ .cell v := fun b hb => by
    obtain ⟨o, ho, d⟩ := ob2 b hb
    exact ⟨o, by rw [hs3h]; exact Heap.get?_push_of_some _ ho, d⟩
  have hns : h₁.Ns s3.heap.objs.size (fun x => ([] : List (Str × Value)).reverse.lookup x) := by rw [hs3h]; exact hns₁
  have I4 : Inv (cxC X (own ++ fr.map (·.1)) scope s3 H3 fp) [] (st0 own fr σ) H3 { s3 with heap := h₁, toks := s2.toks + 0 } := inv_comp hs hf I3 f3 ob3 hns k1
  have st4 : tn 0 h₁ := T.keep _ _ _ st2 fun b hb o e => k1 b o (by rw [hs3h]; exact Heap.get?_push_of_some _ e)
  have f4 : ∀ b ∈ fp, FpOk (cxC X (own ++ fr.map (·.1)) scope s3 H3 fp) [] H3 b := fun b hb => by
    obtain ⟨z1, z2, z3, z4, z5, z6⟩ := f3 b hb
    refine ⟨z1, (I4.ok.exf b hb).1, I4.ok.exfs b hb, .inl hb, (I4.ok.exf b hb).2, fun p hp => absurd (show p ∈ ([] : List (Addr × Obj)) from hp) (by simp)⟩
  have loop : codeAny (model X.prog X.w) X.A (.compLoop (.ListComp elt [⟨target, iter, ifs, 0⟩] scope pos) 0 (.ref it) (.ref s2.heap.objs.size) (cxC X (own ++ fr.map (·.1)) scope s3 H3 fp).env)
      (compPost (model X.prog X.w) X.A X.xe none (EP X pins σ Q) (.ref s2.heap.objs.size) s3.heap.objs.size) { s3 with heap := h₁, toks := s2.toks + 0 } := by
    refine comp_loop (σ := σ) hc T (hg s3 H3 fp) (hif s3 H3 fp) (he s3 H3 fp) W m0 w0 (fun i m ys H6 w6 => ?_) I4 st4 f4
    obtain ⟨hD, t6⟩ := turn i m ys H6 w6
    refine ⟨hD, t6.imp (fun ⟨stop, qn⟩ => ⟨stop, fun s' I' => ?_⟩) fun z => z⟩
    obtain ⟨m', hn', _⟩ := I'.loc
    refine ⟨m', hn', fun h'' sb => ⟨.ref s2.heap.objs.size, H6, ?_, rfl, qn⟩⟩
    have hfreeC : H6 s3.heap.objs.size = none := I'.free
    have u : Un (frs X.stack) fp H3 H6 s3.heap s'.heap := I'.base
    have lt : ∀ b o, s3.heap.get? b = some o → b ≠ s3.heap.objs.size := fun b o e => Nat.ne_of_lt (Heap.lt_size e)
    have u2 : Un (frs X.stack) fp H3 H6 s3.heap h'' :=
      ⟨fun b o e n hb hx => (sb.2 b (lt b o e)).trans (u.keep b o e n hb hx), fun b o e n hb hx => by
          obtain ⟨sl, z⟩ := u.slot b o e n hb hx
          exact ⟨sl, (sb.2 b (lt b o e)).trans z⟩, u.free, fun b o e hx => by
          obtain ⟨o', z⟩ := u.there b o e hx
          exact ⟨o', (sb.2 b (lt b o e)).trans z⟩, u.tups, u.frzs, u.tbls⟩
    have hok : HOk X.prog X.w H6 h'' := fun b ob e => by
      refine (I'.hok b ob e).stay (fun c v hc q => (sb.2 c ?_).trans q) (fun _ q => q) fun _ _ q => q
      rintro rfl
      rcases hc with z | z
      · rw [← z, hfreeC] at e; cases e
      · rw [hfreeC] at z; cases z
    exact I3.call' (s' := { s' with heap := h'' }) (ch := fp) I'.os u2 hok I'.bare fun b hb => by
      obtain ⟨z1, z2, z3, z4, z5, z6⟩ := f3 b hb
      exact ⟨z4, z2, z5, z6⟩
  have fin : ∀ s4 : Shared, s4 = { s3 with heap := h₁, toks := s2.toks + 0 } → codeAny (model X.prog X.w) X.A (.compStart (.ListComp elt [⟨target, iter, ifs, 0⟩] scope pos) 0 (.ref it) (.ref s2.heap.objs.size) (cxC X (own ++ fr.map (·.1)) scope s3 H3 fp).env)
      (compPost (model X.prog X.w) X.A X.xe none (EP X pins σ Q) (.ref s2.heap.objs.size) s3.heap.objs.size) s4 := by
    rintro s4 rfl
    exact codeAny_compStart_list loop (T.self _ 0 _ _ _ st4 loop)
  have z := fin { s2 with heap := h₁, toks := s2.toks + 0 } (by rw [← hs3])
  rw [hs3h] at z
  have ec : (cxC X (own ++ fr.map (·.1)) scope s3 H3 fp).env = compEnvC scope (clOf X.env scope.names []) (s2.heap.push { cls := .type "list", dict := none, data := .seq ([] : List Value).toArray }).objs.size X.env := by
    rw [← hs3h]; rfl
  rw [ec] at z
  exact z
end
/-- over a list that stays -/
theorem comp_list {K : PySem.W.Frag} {a : Addr} {xs : List V} {own : List Str} {fr : List (Str × Nat)} {g : TG} {tc : TT} {te : TE} {σ : St} {H : Hp} {Q : VK}
    (h : ∀ D, H D = none → ∃ Pv : Nat → List V → Hp → Prop, Pv 0 [] (upd H D (.lst [])) ∧ (∀ i ys H', i ≤ xs.length → Pv i ys H' → SqL K H' a xs ∧ H' D = some (.lst ys) ∧ ys.length < sizeLine) ∧
      (∀ i x ys H', xs[i]? = some x → Pv i ys H' → g x (st0 own fr σ) H' fun σ2 H4 => Wk (st0 own fr σ) σ2 ∧ tc σ2 H4 fun b H5 => if b = true then te σ2 H5 fun v H6 => H6 D = some (.lst ys) ∧ Pv (i + 1) (ys ++ [v]) (upd H6 D (.lst (ys ++ [v]))) else Pv (i + 1) ys H5) ∧
      (∀ ys H', H' D = some (.lst ys) → Pv xs.length ys H' → Q (.ref D) H')) : CompR own fr g tc te σ Q (Itl K a) H := by
  intro D hD
  obtain ⟨Pv, h0, hl, hs, hd⟩ := h D hD
  refine ⟨fun i m ys H => m = xs.length - i ∧ i ≤ xs.length ∧ Pv i ys H, ⟨xs.length, by simp, Nat.zero_le _, h0⟩, ?_⟩
  rintro i m ys H2 ⟨rfl, hi, p⟩
  obtain ⟨q, hD, hlen⟩ := hl i ys H2 hi p
  refine ⟨hD, ?_⟩
  by_cases hlt : i < xs.length
  · refine .inr ⟨⟨xs, xs[i], q, by simp [hlt]⟩, hlen, Pv (i + 1), fun zs H' p' => ⟨xs.length - (i + 1), by omega, rfl, hlt, p'⟩, fun x H' y => ?_⟩
    obtain ⟨e, y⟩ := y
    subst e
    exact hs i x ys _ (y xs q) p
  · have e : i = xs.length := by omega
    subst e
    exact .inl ⟨⟨xs, q, Nat.le_refl _⟩, hd ys H2 hD p⟩
theorem comp_range {lo : Int} {n : Nat} {own : List Str} {fr : List (Str × Nat)} {g : TG} {tc : TT} {te : TE} {σ : St} {H : Hp} {Q : VK}
    (h : ∀ D, H D = none → ∃ Pv : Nat → List V → Hp → Prop, Pv 0 [] (upd H D (.lst [])) ∧ (∀ i ys H', i ≤ n → Pv i ys H' → H' D = some (.lst ys) ∧ ys.length < sizeLine) ∧
      (∀ i ys H', i < n → Pv i ys H' → g (.int (lo + i)) (st0 own fr σ) H' fun σ2 H4 => Wk (st0 own fr σ) σ2 ∧ tc σ2 H4 fun b H5 => if b = true then te σ2 H5 fun v H6 => H6 D = some (.lst ys) ∧ Pv (i + 1) (ys ++ [v]) (upd H6 D (.lst (ys ++ [v]))) else Pv (i + 1) ys H5) ∧
      (∀ ys H', H' D = some (.lst ys) → Pv n ys H' → Q (.ref D) H')) : CompR own fr g tc te σ Q (Itr lo n) H := by
  intro D hD
  obtain ⟨Pv, h0, hl, hs, hd⟩ := h D hD
  refine ⟨fun i m ys H => m = n - i ∧ i ≤ n ∧ Pv i ys H, ⟨n, by simp, Nat.zero_le _, h0⟩, ?_⟩
  rintro i m ys H2 ⟨rfl, hi, p⟩
  obtain ⟨hD, hlen⟩ := hl i ys H2 hi p
  refine ⟨hD, ?_⟩
  by_cases hlt : i < n
  · refine .inr ⟨hlt, hlen, Pv (i + 1), fun zs H' p' => ⟨n - (i + 1), by omega, rfl, hlt, p'⟩, fun x H' y => ?_⟩
    obtain ⟨e, y⟩ := y
    subst e y
    exact hs i ys _ hlt p
  · have e : i = n := by omega
    subst e
    exact .inl ⟨Nat.le_refl _, hd ys H2 hD p⟩
end L2

/-! ### sorting by asking: with answers that come of ints the places come out sorted -/
namespace Srt
open PySem PySem.W PyProof.Rows
section
variable (c : Nat → Int) (n : Nat)
noncomputable def Ok {α : Type} : KasT α → (α → Prop) → Prop
  | .ret a, Q => Q a
  | .ask i j k, Q => i < n ∧ j < n ∧ Ok (k (decide (c i < c j))) Q
noncomputable def K (p : Array Nat) (i : Nat) : Int := c (p.getD i 0)
variable {c n}
noncomputable def PermR (n : Nat) (p : Array Nat) : Prop := p.Perm (List.range n).toArray
theorem PermR.size {p : Array Nat} (h : PermR n p) : p.size = n := by
  have := h.size_eq; simpa using this
end
end Srt

namespace L2
open PySem PySem.Spec PyProof.Rows PySem.W
/-! ### sorted of pairs of ints -/
noncomputable def ltP (p q : Int × Int) : Bool := decide (p.1 < q.1 ∨ (p.1 = q.1 ∧ p.2 < q.2))
noncomputable def leP (p q : Int × Int) : Prop := p.1 < q.1 ∨ (p.1 = q.1 ∧ p.2 ≤ q.2)
noncomputable instance (p q : Int × Int) : Decidable (leP p q) := by unfold leP; exact inferInstance
section
variable {prog : Program} {w : World} {A : Around} {E : Value → Shared → Prop} {s : Shared} {h₀ : Heap} {L a : Addr} {m : Str → Option Value} {news : List (Addr × Obj)} {vs : List Value}
end
section
variable {X : Cx} {pins : List (Addr × Obj)} {σ : St} {H : Hp} {s : Shared}
noncomputable def rII : Rp (Int × Int) := rPr rInt rInt
theorem imm_ii : Imm rII := imm_pr imm_int imm_int
theorem eqc_ii : EqC rII 1 := eqc_pr eqc_int eqc_int
end
end L2

namespace L2
open PySem PySem.Spec PyProof.Rows
section
variable {X : Cx} {a b c d : Expr} {ta tb tc td : TE} {pos : Pos}
end
section
variable {σ : St} {H : Hp} {ta tb tc td : TE} {tA tB' : TT} {K : PySem.W.Frag}
end
theorem sIx_none (n d : Nat) : HT.sIx n d none = d := rfl
theorem sIx_some {n d : Nat} {k : Int} (h0 : 0 ≤ k) (h1 : k ≤ n) : HT.sIx n d (some k) = k.toNat := by
  show (if k < 0 then (k + (n : Int)).toNat else min k.toNat n) = k.toNat
  rw [if_neg (by omega)]; omega
theorem HT_lex (p q : Int × Int) : HT.lexLt [p.1, p.2] [q.1, q.2] = ltP p q := by
  unfold ltP
  rw [HT.lexLt_cons, HT.lexLt_cons, HT.lexLt_nil_nil]
  by_cases h1 : p.1 = q.1
  · rw [if_pos h1]
    by_cases h2 : p.2 = q.2
    · rw [if_pos h2]; exact (decide_eq_false (by omega)).symm
    · rw [if_neg h2, decide_eq_decide]; omega
  · rw [if_neg h1, decide_eq_decide]; omega
/-! ### the rules inside a comprehension's block: K is the one of around -/
section
variable {X : Cx} {K : PySem.W.Frag}
theorem ix_listK (h : X.K = K) : IxR X (rIxL K) := h ▸ ix_list
theorem pg_tupK {es : List Expr} {k : Nat} {t : TGs} {n : Nat} {pos : Pos} (h : X.K = K) (hc : X.calm = true) (hs : PGs X es t) (hn : (assignEach es X.env).length = n := by rfl) (hst : (assignEach es X.env).findIdx? (·.1) = none := by rfl) : PG X (.Tuple es k pos) (gTup K n t) := h ▸ pg_tup hc hs hn hst
theorem op_ltTK (h : X.K = K) (hu : X.A.units < cLine) : OpR X (compareOp .Lt) (rLtT K) := h ▸ op_ltT hu
theorem op_eqLK {α : Type} [DecidableEq α] {r : Rp α} {n : Nat} (h : X.K = K) (hr : EqC r n) (hu : X.A.units + (n + 1) < cLine) : OpR X (compareOp .Eq) (rEqL r K false) := h ▸ op_eqL hr hu
end
end L2

/-! A typed reading of defs: each def is held against a Lean function into Option (none: the reading says nothing). Own work. -/
namespace L2
open PySem PySem.Spec PyProof.Rows
/-! ### hiding lists that are being filled -/
noncomputable def hide (S : List Addr) (H : Hp) : Hp := fun a => if a ∈ S then none else H a
theorem hide_in {S : List Addr} {H : Hp} {a : Addr} (h : a ∈ S) : hide S H a = none := if_pos h
theorem hide_out {S : List Addr} {H : Hp} {a : Addr} (h : a ∉ S) : hide S H a = H a := if_neg h
theorem hide_some {S : List Addr} {H : Hp} {a : Addr} {o : HO} (e : hide S H a = some o) : a ∉ S ∧ H a = some o := by
  by_cases h : a ∈ S
  · rw [hide_in h] at e; cases e
  · rw [hide_out h] at e; exact ⟨h, e⟩
theorem hide_nil {H : Hp} : hide [] H = H := funext fun a => hide_out (by simp)
theorem hide_same {S : List Addr} {H : Hp} : Same (hide S H) H := fun _ _ e => (hide_some e).2
theorem Same.hide {S : List Addr} {H H' : Hp} (h : Same H H') : Same (hide S H) (hide S H') := fun b o e => by
  obtain ⟨h1, h2⟩ := hide_some e
  rw [hide_out h1]; exact h b o h2
theorem hide_sub {S S' : List Addr} {H : Hp} (h : ∀ a ∈ S', a ∈ S) : Same (hide S H) (hide S' H) := fun b o e => by
  obtain ⟨h1, h2⟩ := hide_some e
  rw [hide_out fun z => h1 (h b z)]; exact h2
theorem hide_upd {S : List Addr} {H : Hp} {b : Addr} {o : HO} (h : b ∈ S) : hide S (upd H b o) = hide S H := funext fun a => by
  by_cases ha : a ∈ S
  · rw [hide_in ha, hide_in ha]
  · rw [hide_out ha, hide_out ha, upd_ne]
    rintro rfl; exact ha h
theorem hide_new {S : List Addr} {H : Hp} {b : Addr} {o : HO} (h : H b = none) : hide (S ++ [b]) (upd H b o) = hide S H := funext fun a => by
  by_cases hb : a = b
  · subst hb
    rw [hide_in (by simp)]
    by_cases ha : a ∈ S
    · rw [hide_in ha]
    · rw [hide_out ha, h]
  · by_cases ha : a ∈ S
    · rw [hide_in ha, hide_in (by simp [ha])]
    · rw [hide_out ha, hide_out (by simp [ha, hb]), upd_ne hb]
/-- the hidden ones are lists that are there -/
noncomputable def AdmL (S : List Addr) (H : Hp) : Prop := ∀ b ∈ S, ∃ xs, H b = some (.lst xs)
theorem AdmL.same {S : List Addr} {H H' : Hp} (h : AdmL S H) (e : Same H H') : AdmL S H' := fun b hb => let ⟨xs, q⟩ := h b hb; ⟨xs, e _ _ q⟩
theorem AdmL.nil {H : Hp} : AdmL [] H := fun b hb => by cases hb
theorem AdmL.ne {S : List Addr} {H : Hp} {b : Addr} (h : AdmL S H) (hb : H b = none) : b ∉ S := fun z => by
  obtain ⟨xs, q⟩ := h b z
  rw [hb] at q; cases q
theorem AdmL.push {S : List Addr} {H : Hp} {b : Addr} {xs : List V} (h : AdmL S H) (hb : H b = some (.lst xs)) : AdmL (S ++ [b]) H := fun c hc => by
  rcases List.mem_append.mp hc with hc | hc
  · exact h c hc
  · rw [List.mem_singleton.mp hc]; exact ⟨xs, hb⟩
/-! ### what stands for what -/
class StaC {α : Type} (r : Rp α) : Prop where
  sta : Sta r
class ImmC {α : Type} (r : Rp α) : Prop where
  imm : Imm r
class ScaC {α : Type} (r : Rp α) : Prop where
  sca : ∀ K H H' v x, r K H v x → r K H' v x
noncomputable instance {α : Type} (r : Rp α) [h : ImmC r] : StaC r := ⟨h.imm.sta⟩
noncomputable instance {α : Type} (r : Rp α) [h : ScaC r] : ImmC r := ⟨fun K H H' v a _ q => h.sca K H H' v a q⟩
noncomputable instance : ScaC rInt := ⟨fun _ _ _ _ _ h => h⟩
noncomputable instance : ScaC rBool := ⟨fun _ _ _ _ _ h => h⟩
noncomputable def rStr : Rp Str := fun _ _ v x => v = .str x
noncomputable instance : ScaC rStr := ⟨fun _ _ _ _ _ h => h⟩
noncomputable def rUnit : Rp Unit := fun _ _ v _ => v = .non
noncomputable instance : ScaC rUnit := ⟨fun _ _ _ _ _ h => h⟩
noncomputable instance {α β : Type} (r : Rp α) (q : Rp β) [h1 : ImmC r] [h2 : ImmC q] : ImmC (rPr r q) := ⟨imm_pr h1.imm h2.imm⟩
noncomputable instance {α β : Type} (r : Rp α) (q : Rp β) [h1 : StaC r] [h2 : StaC q] : StaC (rPr r q) := ⟨sta_pr h1.sta h2.sta⟩
noncomputable instance : ImmC rII := ⟨imm_ii⟩
/-- a list that code of the program made -/
noncomputable def rL {α : Type} (r : Rp α) : Rp (List α) := fun K H v l => ∃ a xs, v = .ref a ∧ H a = some (.lst xs) ∧ Paired (r K H) xs l
theorem _root_.PySem.Paired.sta {α : Type} {r : Rp α} [hr : StaC r] {K : PySem.W.Frag} {H H' : Hp} {xs : List V} {l : List α} (e : Same H H') (p : Paired (r K H) xs l) : Paired (r K H') xs l := Paired.mapP p fun v p z => hr.sta _ _ _ _ _ e z
noncomputable instance {α : Type} (r : Rp α) [h : StaC r] : StaC (rL r) := ⟨fun K H H' v l e ⟨a, xs, ev, h1, p⟩ => ⟨a, xs, ev, e _ _ h1, p.sta e⟩⟩
noncomputable instance {α : Type} (r : Rp α) [h : StaC r] : StaC (rLs r) := ⟨sta_ls h.sta⟩
theorem rL.ls {α : Type} {r : Rp α} {K : PySem.W.Frag} {H : Hp} {v : V} {l : List α} (h : rL r K H v l) : rLs r K H v l := let ⟨a, xs, ev, h1, p⟩ := h; ⟨a, ev, xs, SqL.of h1, p⟩
noncomputable def rOpt {α : Type} (r : Rp α) : Rp (Option α) := fun K H v o => match o with
  | none => v = .non
  | some x => r K H v x ∧ v ≠ .non
noncomputable instance {α : Type} (r : Rp α) [h : StaC r] : StaC (rOpt r) := ⟨fun K H H' v o e q => by
  cases o with
  | none => exact q
  | some x => exact ⟨h.sta _ _ _ _ _ e q.1, q.2⟩⟩
/-- with the hidden ones -/
noncomputable abbrev Rq (α : Type) := PySem.W.Frag → List Addr → Hp → V → α → Prop
noncomputable def vs {α : Type} (r : Rp α) : Rq α := fun K S H v x => r K (hide S H) v x
noncomputable def fl {α : Type} (r : Rp α) : Rq α := fun K _ H v x => r K H v x
noncomputable def ce {α : Type} (r : Rp α) : Rq (List α) := fun K S H v l => ∃ a xs, v = .ref a ∧ H a = some (.lst xs) ∧ Paired (r K (hide S H)) xs l
noncomputable def lo {α : Type} (r : Rp α) : Rq (List α) := fun K S H v l => ∃ a xs, v = .ref a ∧ SqL K H a xs ∧ Paired (r K (hide S H)) xs l
class StaQ {α : Type} (q : Rq α) : Prop where
  sta : ∀ K S H H' v x, Same H H' → q K S H v x → q K S H' v x
noncomputable instance {α : Type} (r : Rp α) [h : StaC r] : StaQ (vs r) := ⟨fun K S H H' v x e q => h.sta _ _ _ _ _ e.hide q⟩
noncomputable instance {α : Type} (r : Rp α) [h : StaC r] : StaQ (fl r) := ⟨fun K S H H' v x e q => h.sta _ _ _ _ _ e q⟩
noncomputable instance {α : Type} (r : Rp α) [h : StaC r] : StaQ (ce r) := ⟨fun K S H H' v x e ⟨a, xs, ev, h1, p⟩ => ⟨a, xs, ev, e _ _ h1, p.sta e.hide⟩⟩
noncomputable instance {α : Type} (r : Rp α) [h : StaC r] : StaQ (lo r) := ⟨fun K S H H' v x e ⟨a, xs, ev, h1, p⟩ => ⟨a, xs, ev, e.seq h1, p.sta e.hide⟩⟩
/-- what is known of a name's value -/
inductive Kd : Type 1
  | any
  | vis {α : Type} (r : Rp α) [StaC r] (x : α)
  | own {α : Type} (r : Rp α) [StaC r] (l : List α)
noncomputable def slotOk (K : PySem.W.Frag) (S : List Addr) (H : Hp) : Kd → Option V → Prop
  | .any, _ => True
  | @Kd.vis _ r _ x, o => ∃ v, o = some v ∧ r K (hide S H) v x
  | @Kd.own _ r _ l, o => ∃ b xs, o = some (.ref b) ∧ b ∈ S ∧ H b = some (.lst xs) ∧ Paired (r K (hide S H)) xs l
theorem slotOk.same {K : PySem.W.Frag} {S : List Addr} {H H' : Hp} {k : Kd} {o : Option V} (h : slotOk K S H k o) (e : Same H H') : slotOk K S H' k o := by
  cases k with
  | any => trivial
  | @vis α r hr x => obtain ⟨v, h1, h2⟩ := h; exact ⟨v, h1, hr.sta _ _ _ _ _ e.hide h2⟩
  | @own α r hr l => obtain ⟨b, xs, h1, h2, h3, h4⟩ := h; exact ⟨b, xs, h1, h2, e _ _ h3, h4.sta e.hide⟩
structure EnvOk (K : PySem.W.Frag) (S : List Addr) (H : Hp) (ks : List Kd) (σ : St) : Prop where
  len : σ.length = ks.length
  get : ∀ (i : Nat) (k : Kd), ks[i]? = some k → ∃ o, σ[i]? = some o ∧ slotOk K S H k o
theorem EnvOk.same {K : PySem.W.Frag} {S : List Addr} {H H' : Hp} {ks : List Kd} {σ : St} (h : EnvOk K S H ks σ) (e : Same H H') : EnvOk K S H' ks σ :=
  ⟨h.len, fun i k hk => let ⟨o, h1, h2⟩ := h.get i k hk; ⟨o, h1, h2.same e⟩⟩
theorem EnvOk.set {K : PySem.W.Frag} {S : List Addr} {H : Hp} {ks : List Kd} {σ : St} (h : EnvOk K S H ks σ) {i : Nat} {k : Kd} {v : V} (hk : slotOk K S H k (some v)) : EnvOk K S H (ks.set i k) (σ.set i (some v)) := by
  refine ⟨by rw [List.length_set, List.length_set, h.len], fun j k' hj => ?_⟩
  by_cases e : i = j
  · subst e
    by_cases hi : i < ks.length
    · rw [List.getElem?_set_self hi] at hj
      cases hj
      exact ⟨some v, List.getElem?_set_self (by rw [h.len]; exact hi), hk⟩
    · rw [List.getElem?_eq_none (by rw [List.length_set]; omega)] at hj; cases hj
  · rw [List.getElem?_set_ne e] at hj ⊢
    exact h.get j k' hj
/-- fewer are known -/
inductive KWk : List Kd → List Kd → Prop
  | nil : KWk [] []
  | same {k : Kd} {ks ks' : List Kd} : KWk ks ks' → KWk (k :: ks) (k :: ks')
  | any {k : Kd} {ks ks' : List Kd} : KWk ks ks' → KWk (k :: ks) (.any :: ks')
theorem KWk.len {ks ks' : List Kd} (h : KWk ks ks') : ks'.length = ks.length := by
  induction h with
  | nil => rfl
  | same _ ih => simp [ih]
  | any _ ih => simp [ih]
theorem KWk.get {ks ks' : List Kd} (h : KWk ks ks') : ∀ {i : Nat} {k : Kd}, ks'[i]? = some k → (k = .any ∧ i < ks.length) ∨ ks[i]? = some k := by
  induction h with
  | nil => intro i k e; simp at e
  | same _ ih =>
    intro i k e
    cases i with
    | zero => exact .inr e
    | succ i =>
      rcases ih (by simpa using e) with ⟨h1, h2⟩ | h
      · exact .inl ⟨h1, by simpa using h2⟩
      · exact .inr (by simpa using h)
  | any _ ih =>
    intro i k e
    cases i with
    | zero => exact .inl ⟨(Option.some.inj e).symm, by simp⟩
    | succ i =>
      rcases ih (by simpa using e) with ⟨h1, h2⟩ | h
      · exact .inl ⟨h1, by simpa using h2⟩
      · exact .inr (by simpa using h)
theorem EnvOk.weak {K : PySem.W.Frag} {S : List Addr} {H : Hp} {ks ks' : List Kd} {σ : St} (h : EnvOk K S H ks σ) (w : KWk ks ks') : EnvOk K S H ks' σ := by
  refine ⟨by rw [h.len, w.len], fun i k e => ?_⟩
  rcases w.get e with ⟨rfl, hi⟩ | e'
  · exact ⟨σ[i]'(by rw [h.len]; exact hi), List.getElem?_eq_getElem _, trivial⟩
  · exact h.get i k e'
/-! ### expressions -/
noncomputable def Ev {α : Type} (K : PySem.W.Frag) (ks : List Kd) (t : TE) (q : Rq α) (m : Option α) : Prop :=
  ∀ x, m = some x → ∀ (S : List Addr) (σ : St) (H : Hp), AdmL S H → EnvOk K S H ks σ → ∀ Q : VK, (∀ v H', Same H H' → q K S H' v x → Q v H') → t σ H Q
/-- a new list -/
noncomputable def EvN {α : Type} (K : PySem.W.Frag) (ks : List Kd) (t : TE) (r : Rp α) (m : Option (List α)) : Prop :=
  ∀ l, m = some l → ∀ (S : List Addr) (σ : St) (H : Hp), AdmL S H → EnvOk K S H ks σ → ∀ Q : VK, (∀ a xs H', H a = none → Same H H' → H' a = some (.lst xs) → Paired (r K (hide (S ++ [a]) H')) xs l → Q (.ref a) H') → t σ H Q
noncomputable def EvT (K : PySem.W.Frag) (ks : List Kd) (t : TT) (m : Option Bool) : Prop :=
  ∀ b, m = some b → ∀ (S : List Addr) (σ : St) (H : Hp), AdmL S H → EnvOk K S H ks σ → ∀ Q : Bool → Hp → Prop, (∀ H', Same H H' → Q b H') → t σ H Q
noncomputable abbrev B1 {α β : Type} (f : α → Option β) (m : Option α) : Option β := m.bind f
noncomputable abbrev B2 {α β γ : Type} (f : α → β → Option γ) (m : Option α) (n : Option β) : Option γ := m.bind fun a => n.bind fun b => f a b
noncomputable abbrev B3 {α β γ δ : Type} (f : α → β → γ → Option δ) (m : Option α) (n : Option β) (o : Option γ) : Option δ := m.bind fun a => n.bind fun b => o.bind fun c => f a b c
noncomputable abbrev B4 {α β γ δ ε : Type} (f : α → β → γ → δ → Option ε) (m : Option α) (n : Option β) (o : Option γ) (p : Option δ) : Option ε := m.bind fun a => n.bind fun b => o.bind fun c => p.bind fun d => f a b c d
noncomputable abbrev BAnd (m n : Option Bool) : Option Bool := m.bind fun a => if a = true then n else some false
noncomputable abbrev BOr (m n : Option Bool) : Option Bool := m.bind fun a => if a = true then some true else n
noncomputable abbrev BNot (m : Option Bool) : Option Bool := m.bind fun a => some (!a)
noncomputable abbrev BIf {α : Type} (c : Option Bool) (m n : Option α) : Option α := c.bind fun a => if a = true then m else n
/-- a condition of the reading; never reckoned out -/
noncomputable def chk {α : Type} (p : Prop) (m : Option α) : Option α := @ite _ p (Classical.propDecidable p) m none
theorem chk_pos {α : Type} {p : Prop} {m : Option α} (h : p) : chk p m = m := by unfold chk; exact if_pos h
theorem chk_some {α : Type} {p : Prop} {m : Option α} {x : α} (h : chk p m = some x) : p ∧ m = some x := by
  by_cases c : p
  · rw [chk_pos c] at h; exact ⟨c, h⟩
  · unfold chk at h; rw [if_neg c] at h; cases h
theorem bind_some {α β : Type} {m : Option α} {f : α → Option β} {b : β} (h : m.bind f = some b) : ∃ a, m = some a ∧ f a = some b := Option.bind_eq_some_iff.mp h
section
variable {K : PySem.W.Frag} {ks : List Kd} {α β γ δ : Type}
theorem EvN.ev {t : TE} {r : Rp α} [StaC r] {m : Option (List α)} (h : EvN K ks t r m) : Ev K ks t (vs (rL r)) m := fun l hl S σ H ad en Q q =>
  h l hl S σ H ad en Q fun a xs H' hn e ha p => q _ _ e ⟨a, xs, rfl, by rw [hide_out (ad.ne hn)]; exact ha, p.sta (hide_sub fun _ => List.mem_append_left _)⟩
theorem EvN.ce {t : TE} {r : Rp α} [StaC r] {m : Option (List α)} (h : EvN K ks t r m) : Ev K ks t (ce r) m := fun l hl S σ H ad en Q q =>
  h l hl S σ H ad en Q fun a xs H' hn e ha p => q _ _ e ⟨a, xs, rfl, ha, p.sta (hide_sub fun _ => List.mem_append_left _)⟩
theorem Ev.toQ {t : TE} {q q' : Rq α} {m : Option α} (h : Ev K ks t q m) (hq : ∀ S H v x, q K S H v x → q' K S H v x) : Ev K ks t q' m := fun x hx S σ H ad en Q k =>
  h x hx S σ H ad en Q fun v H' e z => k v H' e (hq _ _ _ _ z)
theorem Ev.ce {t : TE} {r : Rp α} {m : Option (List α)} (h : Ev K ks t (vs (rL r)) m) : Ev K ks t (L2.ce r) m := h.toQ fun S H v x ⟨a, xs, e, h1, p⟩ => ⟨a, xs, e, hide_same _ _ h1, p⟩
theorem Ev.celo {t : TE} {r : Rp α} {m : Option (List α)} (h : Ev K ks t (L2.ce r) m) : Ev K ks t (lo r) m := h.toQ fun S H v x ⟨a, xs, e, h1, p⟩ => ⟨a, xs, e, SqL.of h1, p⟩
theorem Ev.lo {t : TE} {r : Rp α} {m : Option (List α)} (h : Ev K ks t (vs (rL r)) m) : Ev K ks t (L2.lo r) m := h.ce.celo
theorem Ev.slo {t : TE} {r : Rp α} {m : Option (List α)} (h : Ev K ks t (vs (rLs r)) m) : Ev K ks t (L2.lo r) m := h.toQ fun S H v x ⟨a, e, xs, h1, p⟩ => ⟨a, xs, e, hide_same.seq h1, p⟩
theorem Ev.ls {t : TE} {r : Rp α} {m : Option (List α)} (h : Ev K ks t (vs (rL r)) m) : Ev K ks t (vs (rLs r)) m := h.toQ fun S H v x z => rL.ls z
theorem Ev.fl {t : TE} {r : Rp α} [hr : StaC r] {m : Option α} (h : Ev K ks t (vs r) m) : Ev K ks t (L2.fl r) m := h.toQ fun S H v x z => hr.sta _ _ _ _ _ hide_same z
/-- names -/
theorem ev_var {i : Nat} {r : Rp α} [StaC r] {x : α} (h : ks[i]? = Option.some (Kd.vis r x) := by rfl) : Ev K ks (tVar i) (vs r) (Option.some x) := fun y hy S σ H ad en Q k => by
  cases hy
  obtain ⟨o, h1, v, rfl, h2⟩ := en.get i _ h
  exact ⟨v, h1, k v H (Same.refl H) h2⟩
theorem ev_own {i : Nat} {r : Rp α} [StaC r] {x : List α} (h : ks[i]? = Option.some (Kd.own r x) := by rfl) : Ev K ks (tVar i) (ce r) (Option.some x) := fun y hy S σ H ad en Q k => by
  cases hy
  obtain ⟨o, h1, b, xs, rfl, h2, h3, h4⟩ := en.get i _ h
  exact ⟨.ref b, h1, k _ H (Same.refl H) ⟨b, xs, rfl, h3, h4⟩⟩
theorem ev_int {i : Int} : Ev K ks (tC (.int i)) (vs rInt) (Option.some i) := fun y hy S σ H ad en Q k => by
  cases hy; exact k _ H (Same.refl H) rfl
theorem ev_bl {b : Bool} : Ev K ks (tC (.bl b)) (vs rBool) (Option.some b) := fun y hy S σ H ad en Q k => by
  cases hy; exact k _ H (Same.refl H) rfl
/-! ### operations -/
noncomputable def Op1 (K : PySem.W.Frag) (r : V → Hp → VK → Prop) (q1 : Rq α) (q : Rq β) (f : α → Option β) : Prop :=
  ∀ S H v x y, AdmL S H → q1 K S H v x → f x = Option.some y → ∀ Q : VK, (∀ u H', Same H H' → q K S H' u y → Q u H') → r v H Q
noncomputable def Op2 (K : PySem.W.Frag) (r : R2) (q1 : Rq α) (q2 : Rq β) (q : Rq γ) (f : α → β → Option γ) : Prop :=
  ∀ S H v w x y z, AdmL S H → q1 K S H v x → q2 K S H w y → f x y = Option.some z → ∀ Q : VK, (∀ u H', Same H H' → q K S H' u z → Q u H') → r v w H Q
theorem ev_op {r : R2} {q1 : Rq α} {q2 : Rq β} {q : Rq γ} {f : α → β → Option γ} [h1 : StaQ q1] {ta tb : TE} {m : Option α} {n : Option β} (ho : Op2 K r q1 q2 q f) (ha : Ev K ks ta q1 m) (hb : Ev K ks tb q2 n) : Ev K ks (tOp r ta tb) q (B2 f m n) := fun z hz S σ H ad en Q k => by
  obtain ⟨x, hx, hz⟩ := bind_some hz
  obtain ⟨y, hy, hz⟩ := bind_some hz
  exact ha x hx S σ H ad en _ fun v H1 e1 z1 => hb y hy S σ H1 (ad.same e1) (en.same e1) _ fun w H2 e2 z2 => ho S H2 v w x y z (ad.same (e1.trans e2)) (h1.sta _ _ _ _ _ _ e2 z1) z2 hz Q fun u H3 e3 z3 => k u H3 (e1.trans (e2.trans e3)) z3
theorem ev_un {r : V → Hp → VK → Prop} {q1 : Rq α} {q : Rq β} {f : α → Option β} {ta : TE} {m : Option α} (ho : Op1 K r q1 q f) (ha : Ev K ks ta q1 m) : Ev K ks (tUn r ta) q (B1 f m) := fun z hz S σ H ad en Q k => by
  obtain ⟨x, hx, hz⟩ := bind_some hz
  exact ha x hx S σ H ad en _ fun v H1 e1 z1 => ho S H1 v x z (ad.same e1) z1 hz Q fun u H3 e3 z3 => k u H3 (e1.trans e3) z3
/-- a built-in of one argument, of two -/
theorem ev_cb1 {r : List V → Hp → VK → Prop} {q1 : Rq α} {q : Rq β} {f : α → Option β} {ta : TE} {m : Option α} (ho : Op1 K (fun v H Q => r [v] H Q) q1 q f) (ha : Ev K ks ta q1 m) : Ev K ks (tCB r (tCons ta tNil)) q (B1 f m) := fun z hz S σ H ad en Q k => by
  obtain ⟨x, hx, hz⟩ := bind_some hz
  exact ha x hx S σ H ad en _ fun v H1 e1 z1 => ho S H1 v x z (ad.same e1) z1 hz Q fun u H3 e3 z3 => k u H3 (e1.trans e3) z3
theorem ev_cb2 {r : List V → Hp → VK → Prop} {q1 : Rq α} {q2 : Rq β} {q : Rq γ} {f : α → β → Option γ} [h1 : StaQ q1] {ta tb : TE} {m : Option α} {n : Option β} (ho : Op2 K (fun v w H Q => r [v, w] H Q) q1 q2 q f) (ha : Ev K ks ta q1 m) (hb : Ev K ks tb q2 n) : Ev K ks (tCB r (tCons ta (tCons tb tNil))) q (B2 f m n) :=
  ev_op (r := fun v w H Q => r [v, w] H Q) ho ha hb
/-! ints -/
theorem o_int0 {g : Int → Int → Int} : Op2 K (rI0 fun i j => .int (g i j)) (vs rInt) (vs rInt) (vs rInt) (fun i j => Option.some (g i j)) := fun S H v w x y z ad h1 h2 hz Q k => by
  cases h1; cases h2; cases hz
  exact ⟨x, y, rfl, rfl, k _ H (Same.refl H) rfl⟩
theorem o_intC {C : Int → Int → Prop} {g : Int → Int → Int} : Op2 K (rI C fun i j => .int (g i j)) (vs rInt) (vs rInt) (vs rInt) (fun i j => chk (C i j) (Option.some (g i j))) := fun S H v w x y z ad h1 h2 hz Q k => by
  cases h1; cases h2
  obtain ⟨hc, hz⟩ := chk_some hz
  cases hz
  exact ⟨x, y, rfl, rfl, hc, k _ H (Same.refl H) rfl⟩
theorem o_cmp0 {g : Int → Int → Bool} : Op2 K (rI0 fun i j => .bl (g i j)) (vs rInt) (vs rInt) (vs rBool) (fun i j => Option.some (g i j)) := fun S H v w x y z ad h1 h2 hz Q k => by
  cases h1; cases h2; cases hz
  exact ⟨x, y, rfl, rfl, k _ H (Same.refl H) rfl⟩
noncomputable def mulM (i j : Int) : Option Int := chk (CMul i j) (some (i * j))
noncomputable def modM (i j : Int) : Option Int := chk (0 < j) (some (i % j))
noncomputable def divM (i j : Int) : Option Int := chk (CDivB i j) (some (i / j))
theorem o_mul : Op2 K (rI CMul fun i j => .int (i * j)) (vs rInt) (vs rInt) (vs rInt) mulM := o_intC
theorem o_mod : Op2 K (rI (fun _ j => 0 < j) fun i j => .int (i % j)) (vs rInt) (vs rInt) (vs rInt) modM := o_intC
theorem o_div : Op2 K (rI CDivB fun i j => .int (i / j)) (vs rInt) (vs rInt) (vs rInt) divM := o_intC
theorem o_neg : Op1 K (rU fun i => .int (-i)) (vs rInt) (vs rInt) (fun i => Option.some (-i)) := fun S H v x y ad h1 hz Q k => by
  cases h1; cases hz
  exact ⟨x, rfl, k _ H (Same.refl H) rfl⟩
/-! == and != of plain things -/
theorem o_eqI : Op2 K rEq (vs rInt) (vs rInt) (vs rBool) (fun i j => Option.some (decide (i = j))) := fun S H v w x y z ad h1 h2 hz Q k => by
  cases h1; cases h2; cases hz
  exact ⟨rfl, k _ H (Same.refl H) (by show V.bl _ = V.bl _; congr 1; simp)⟩
/-! and, or, not, if -/
theorem ev_and {ta tb : TE} {m n : Option Bool} (ha : Ev K ks ta (vs rBool) m) (hb : Ev K ks tb (vs rBool) n) : Ev K ks (tAndV ta tb) (vs rBool) (BAnd m n) := fun z hz S σ H ad en Q k => by
  obtain ⟨x, hx, hz⟩ := bind_some hz
  refine ha x hx S σ H ad en _ fun v H1 e1 z1 => ⟨x, z1, ?_⟩
  cases x with
  | true => exact iteT (hb z hz S σ H1 (ad.same e1) (en.same e1) _ fun w H2 e2 z2 => k w H2 (e1.trans e2) z2)
  | false => cases hz; exact iteF (k _ H1 e1 rfl)
theorem ev_or {ta tb : TE} {m n : Option Bool} (ha : Ev K ks ta (vs rBool) m) (hb : Ev K ks tb (vs rBool) n) : Ev K ks (tOrV ta tb) (vs rBool) (BOr m n) := fun z hz S σ H ad en Q k => by
  obtain ⟨x, hx, hz⟩ := bind_some hz
  refine ha x hx S σ H ad en _ fun v H1 e1 z1 => ⟨x, z1, ?_⟩
  cases x with
  | false => exact iteF (hb z hz S σ H1 (ad.same e1) (en.same e1) _ fun w H2 e2 z2 => k w H2 (e1.trans e2) z2)
  | true => cases hz; exact iteT (k _ H1 e1 rfl)
theorem ev_not {ta : TE} {m : Option Bool} (ha : Ev K ks ta (vs rBool) m) : Ev K ks (tNotV ta) (vs rBool) (BNot m) := fun z hz S σ H ad en Q k => by
  obtain ⟨x, hx, hz⟩ := bind_some hz
  cases hz
  exact ha x hx S σ H ad en _ fun v H1 e1 z1 => ⟨x, z1, k _ H1 e1 rfl⟩
/-! tests -/
theorem et_cmp {t : TE} {m : Option Bool} (h : Ev K ks t (vs rBool) m) : EvT K ks (tTest t) m := fun b hb S σ H ad en Q k => h b hb S σ H ad en _ fun v H1 e1 z1 => ⟨b, z1, k H1 e1⟩
theorem et_val {t : TE} {m : Option Bool} (h : Ev K ks t (vs rBool) m) : EvT K ks (tB t) m := fun b hb S σ H ad en Q k => h b hb S σ H ad en _ fun v H1 e1 z1 => ⟨b, z1, k H1 e1⟩
theorem et_not {t : TT} {m : Option Bool} (h : EvT K ks t m) : EvT K ks (tNot t) (BNot m) := fun b hb S σ H ad en Q k => by
  obtain ⟨x, hx, hz⟩ := bind_some hb
  cases hz
  exact h x hx S σ H ad en _ fun H1 e1 => k H1 e1
theorem et_and {t u : TT} {m n : Option Bool} (h : EvT K ks t m) (h2 : EvT K ks u n) : EvT K ks (tAnd t u) (BAnd m n) := fun b hb S σ H ad en Q k => by
  obtain ⟨x, hx, hz⟩ := bind_some hb
  refine h x hx S σ H ad en _ fun H1 e1 => ?_
  cases x with
  | true => exact iteT (h2 b hz S σ H1 (ad.same e1) (en.same e1) _ fun H2 e2 => k H2 (e1.trans e2))
  | false => cases hz; exact iteF (k H1 e1)
theorem et_or {t u : TT} {m n : Option Bool} (h : EvT K ks t m) (h2 : EvT K ks u n) : EvT K ks (tOr t u) (BOr m n) := fun b hb S σ H ad en Q k => by
  obtain ⟨x, hx, hz⟩ := bind_some hb
  refine h x hx S σ H ad en _ fun H1 e1 => ?_
  cases x with
  | false => exact iteF (h2 b hz S σ H1 (ad.same e1) (en.same e1) _ fun H2 e2 => k H2 (e1.trans e2))
  | true => cases hz; exact iteT (k H1 e1)
end
end L2

namespace L2
open PySem PySem.Spec PyProof.Rows
section
variable {K : PySem.W.Frag} {ks : List Kd} {α β γ δ : Type}
noncomputable def eqM {α : Type} [DecidableEq α] (x y : α) : Option Bool := some (decide (x = y))
/-! ### tuples -/
theorem ev_pair {r : Rp α} {q : Rp β} [h1 : StaC r] [h2 : StaC q] {ta tb : TE} {m : Option α} {n : Option β} (ha : Ev K ks ta (vs r) m) (hb : Ev K ks tb (vs q) n) : Ev K ks (tTup (tCons ta (tCons tb tNil))) (vs (rPr r q)) (B2 (fun a b => some (a, b)) m n) := fun z hz S σ H ad en Q k => by
  obtain ⟨x, hx, hz⟩ := bind_some hz
  obtain ⟨y, hy, hz⟩ := bind_some hz
  cases hz
  refine ha x hx S σ H ad en _ fun v H1 e1 z1 => hb y hy S σ H1 (ad.same e1) (en.same e1) _ fun w H2 e2 z2 => ⟨(by decide : 2 ≤ sizeLine), fun p hp => ?_⟩
  have e3 : Same H2 (upd H2 p (.tup [v, w])) := Same.new hp _
  refine k _ _ (e1.trans (e2.trans e3)) ⟨p, v, w, rfl, SqT.of ?_, h1.sta _ _ _ _ _ (e2.trans e3).hide z1, h2.sta _ _ _ _ _ e3.hide z2⟩
  rw [hide_out ((ad.same (e1.trans e2)).ne hp), upd_same]
theorem o_fst {r : Rp α} {q : Rp β} : Op2 K (rIxT K) (vs (rPr r q)) (fun _ _ _ v (_ : Unit) => v = .int 0) (vs r) (fun p _ => some p.1) := fun S H v w x y z ad ⟨a, u1, u2, e, s, z1, z2⟩ h2 hz Q k => by
  cases hz; subst e
  have h2' : w = .int 0 := h2
  subst h2'
  exact ⟨a, _, _, _, rfl, rfl, hide_same.sqT s, rfl, k _ _ (Same.refl H) z1⟩
theorem o_snd {r : Rp α} {q : Rp β} : Op2 K (rIxT K) (vs (rPr r q)) (fun _ _ _ v (_ : Unit) => v = .int 1) (vs q) (fun p _ => some p.2) := fun S H v w x y z ad ⟨a, u1, u2, e, s, z1, z2⟩ h2 hz Q k => by
  cases hz; subst e
  have h2' : w = .int 1 := h2
  subst h2'
  exact ⟨a, _, _, _, rfl, rfl, hide_same.sqT s, rfl, k _ _ (Same.refl H) z2⟩
theorem ev_fst {r : Rp α} {q : Rp β} {ta : TE} {m : Option (α × β)} (ha : Ev K ks ta (vs (rPr r q)) m) : Ev K ks (tOp (rIxT K) ta (tC (.int 0))) (vs r) (m.map Prod.fst) := fun z hz S σ H ad en Q k => by
  obtain ⟨x, hx, rfl⟩ := Option.map_eq_some_iff.mp hz
  exact ha x hx S σ H ad en _ fun v H1 e1 z1 => o_fst S H1 v _ x () x.1 (ad.same e1) z1 rfl rfl Q fun u H2 e2 z2 => k u H2 (e1.trans e2) z2
theorem ev_snd {r : Rp α} {q : Rp β} {ta : TE} {m : Option (α × β)} (ha : Ev K ks ta (vs (rPr r q)) m) : Ev K ks (tOp (rIxT K) ta (tC (.int 1))) (vs q) (m.map Prod.snd) := fun z hz S σ H ad en Q k => by
  obtain ⟨x, hx, rfl⟩ := Option.map_eq_some_iff.mp hz
  exact ha x hx S σ H ad en _ fun v H1 e1 z1 => o_snd S H1 v _ x () x.2 (ad.same e1) z1 rfl rfl Q fun u H2 e2 z2 => k u H2 (e1.trans e2) z2
theorem o_ltP : Op2 K (rLtT K) (vs rII) (vs rII) (vs rBool) (fun p q => some (ltP p q)) := fun S H v w x y z ad ⟨a, u1, u2, e, s, z1, z2⟩ ⟨a', u1', u2', e', s', z1', z2'⟩ hz Q k => by
  cases hz; subst e e'
  cases (show u1 = .int x.1 from z1); cases (show u2 = .int x.2 from z2); cases (show u1' = .int y.1 from z1'); cases (show u2' = .int y.2 from z2')
  refine ⟨a, a', [x.1, x.2], [y.1, y.2], rfl, rfl, hide_same.sqT s, hide_same.sqT s', ?_⟩
  rw [HT_lex]
  exact k _ H (Same.refl H) rfl
/-! ### lists -/
noncomputable def EvA (K : PySem.W.Frag) (ks : List Kd) (t : TA) (r : Rp α) (n : Nat) (m : Option (List α)) : Prop :=
  ∀ l, m = some l → ∀ (S : List Addr) (σ : St) (H : Hp), AdmL S H → EnvOk K S H ks σ → ∀ Q : List V → Hp → Prop, (∀ xs H', Same H H' → xs.length = n → Paired (r K (hide S H')) xs l → Q xs H') → t σ H Q
theorem ea_nil {r : Rp α} : EvA K ks tNil r 0 (some []) := fun l hl S σ H ad en Q k => by
  cases hl; exact k [] H (Same.refl H) rfl .nil
theorem ea_cons {r : Rp α} [h1 : StaC r] {te : TE} {ta : TA} {n : Nat} {m : Option α} {ms : Option (List α)} (he : Ev K ks te (vs r) m) (ha : EvA K ks ta r n ms) : EvA K ks (tCons te ta) r (n + 1) (B2 (fun a l => some (a :: l)) m ms) := fun l hl S σ H ad en Q k => by
  obtain ⟨x, hx, hl⟩ := bind_some hl
  obtain ⟨l', hl', hl⟩ := bind_some hl
  cases hl
  exact he x hx S σ H ad en _ fun v H1 e1 z1 => ha l' hl' S σ H1 (ad.same e1) (en.same e1) _ fun xs H2 e2 hn p => k _ H2 (e1.trans e2) (by rw [List.length_cons, hn]) (.cons (h1.sta _ _ _ _ _ e2.hide z1) p)
theorem en_lst {r : Rp α} [h1 : StaC r] {ta : TA} {n : Nat} {m : Option (List α)} (h : EvA K ks ta r n m) (hn : n ≤ 1000 := by decide) : EvN K ks (tLst ta) r m := fun l hl S σ H ad en Q k =>
  h l hl S σ H ad en _ fun xs H1 e1 hx p => ⟨by rw [hx]; exact Nat.le_of_lt (small1000 hn), fun a ha => k a xs _ (e1.free ha) (e1.trans (Same.new ha _)) upd_same (by rw [hide_new ha]; exact p)⟩
theorem paired_atI {F : V → α → Prop} {xs : List V} {l : List α} {i : Int} {x : α} (p : Paired F xs l) (h : atI l i = some x) : ∃ v, atI xs i = some v ∧ F v x := by
  have hl := paired_len p
  unfold atI at h ⊢
  rw [hl]
  cases e : ixN l.length i with
  | none => rw [e] at h; cases h
  | some j =>
    rw [e] at h
    obtain ⟨v, h1, h2⟩ := paired_get p (show l[j]? = some x from h)
    exact ⟨v, h1, h2⟩
theorem o_ix {r : Rp α} : Op2 K (rIxL K) (lo r) (vs rInt) (vs r) atI := fun S H v w x y z ad ⟨a, xs, e, s, p⟩ h2 hz Q k => by
  subst e; cases h2
  obtain ⟨u, h1, h2⟩ := paired_atI p hz
  exact ⟨a, xs, y, u, rfl, rfl, s, h1, k u H (Same.refl H) h2⟩
theorem o_len {r : Rp α} : Op1 K (fun v H Q => (fun xs H Q => ∃ p ys, xs = [.ref p] ∧ (SqL K H p ys ∨ SqT K H p ys) ∧ Q (.int ys.length) H) [v] H Q) (lo r) (vs rInt) (fun l => some (l.length : Int)) := fun S H v x y ad ⟨a, xs, e, s, p⟩ hz Q k => by
  subst e; cases hz
  exact ⟨a, xs, rfl, .inl s, k _ H (Same.refl H) (by show V.int _ = V.int _; rw [paired_len p])⟩
theorem lo_rLs {r : Rp α} [StaC r] {S : List Addr} {H : Hp} {v : V} {l : List α} (h : lo r K S H v l) : rLs r K H v l := let ⟨a, xs, e, s, p⟩ := h; ⟨a, e, xs, s, p.sta hide_same⟩
theorem o_eqL {r : Rp α} [DecidableEq α] [h1 : StaC r] : Op2 K (rEqL r K false) (lo r) (lo r) (vs rBool) eqM := fun S H v w x y z ad a b hz Q k => by
  cases hz
  exact ⟨x, y, lo_rLs a, lo_rLs b, k _ H (Same.refl H) rfl⟩
noncomputable def catM {α : Type} (l m : List α) : Option (List α) := chk (l.length + m.length ≤ 1000) (some (l ++ m))
theorem en_cat {r : Rp α} [h1 : StaC r] {ta tb : TE} {m n : Option (List α)} (ha : Ev K ks ta (ce r) m) (hb : Ev K ks tb (ce r) n) : EvN K ks (tOp rCat ta tb) r (B2 catM m n) := fun z hz S σ H ad en Q k => by
  obtain ⟨x, hx, hz⟩ := bind_some hz
  obtain ⟨y, hy, hz⟩ := bind_some hz
  obtain ⟨c, hz⟩ := chk_some hz
  cases hz
  refine ha x hx S σ H ad en _ fun v H1 e1 ⟨a, xs, ea, s1, p1⟩ => hb y hy S σ H1 (ad.same e1) (en.same e1) _ fun w H2 e2 ⟨b, ys, eb, s2, p2⟩ => ?_
  subst ea eb
  have l1 := paired_len p1; have l2 := paired_len p2
  refine ⟨a, b, xs, ys, rfl, rfl, e2 _ _ s1, s2, Nat.le_of_lt (small1000 (by omega)), fun p hp => ?_⟩
  refine k p _ _ ((e1.trans e2).free hp) (e1.trans (e2.trans (Same.new hp _))) upd_same ?_
  rw [hide_new hp]
  exact paired_append (p1.sta e2.hide) p2
/-! slices -/
noncomputable def cutA {α : Type} (xs : List α) (lo hi : Option Int) : List α := (xs.drop (HT.sIx xs.length 0 lo)).take (HT.sIx xs.length xs.length hi - HT.sIx xs.length 0 lo)
noncomputable def EvO (K : PySem.W.Frag) (ks : List Kd) (t : TO) (m : Option (Option Int)) : Prop :=
  ∀ o, m = some o → ∀ (S : List Addr) (σ : St) (H : Hp), AdmL S H → EnvOk K S H ks σ → ∀ Q : Option Int → Hp → Prop, (∀ H', Same H H' → Q o H') → t σ H Q
theorem eo_none : EvO K ks tNoPart (some none) := fun o ho S σ H ad en Q k => by cases ho; exact k H (Same.refl H)
theorem eo_some {t : TE} {m : Option Int} (h : Ev K ks t (vs rInt) m) : EvO K ks (tPart t) (m.map some) := fun o ho S σ H ad en Q k => by
  obtain ⟨i, hi, rfl⟩ := Option.map_eq_some_iff.mp ho
  exact h i hi S σ H ad en _ fun v H1 e1 z1 => ⟨i, z1, k H1 e1⟩
theorem en_slice {r : Rp α} [h1 : StaC r] {ta : TE} {tl th : TO} {m : Option (List α)} {n o : Option (Option Int)} (ha : Ev K ks ta (lo r) m) (hl : EvO K ks tl n) (hh : EvO K ks th o) : EvN K ks (tSl (rSlL K) ta tl th) r (B3 (fun l a b => some (cutA l a b)) m n o) := fun z hz S σ H ad en Q k => by
  obtain ⟨x, hx, hz⟩ := bind_some hz
  obtain ⟨i, hi, hz⟩ := bind_some hz
  obtain ⟨j, hj, hz⟩ := bind_some hz
  cases hz
  refine ha x hx S σ H ad en _ fun v H1 e1 ⟨a, xs, ea, s1, p1⟩ => hl i hi S σ H1 (ad.same e1) (en.same e1) _ fun H2 e2 => hh j hj S σ H2 (ad.same (e1.trans e2)) (en.same (e1.trans e2)) _ fun H3 e3 => ?_
  subst ea
  refine ⟨a, xs, rfl, (e2.trans e3).seq s1, fun p hp => ?_⟩
  refine k p _ _ ((e1.trans (e2.trans e3)).free hp) (e1.trans (e2.trans (e3.trans (Same.new hp _)))) upd_same ?_
  rw [hide_new hp]
  unfold cutA cutV
  rw [← paired_len p1]
  exact paired_take _ (paired_drop _ (p1.sta (e2.trans e3).hide))
/-- list(xs) -/
theorem en_list {r : Rp α} [h1 : StaC r] {ta : TE} {m : Option (List α)} (ha : Ev K ks ta (lo r) m) : EvN K ks (tCB (fun xs H Q => ∃ p ys, xs = [.ref p] ∧ (SqL K H p ys ∨ SqT K H p ys) ∧ ∀ l, H l = none → Q (.ref l) (upd H l (.lst ys))) (tCons ta tNil)) r m := fun z hz S σ H ad en Q k =>
  ha z hz S σ H ad en _ fun v H1 e1 ⟨a, xs, ea, s1, p1⟩ => by
    subst ea
    refine ⟨a, xs, rfl, .inl s1, fun p hp => ?_⟩
    refine k p _ _ (e1.free hp) (e1.trans (Same.new hp _)) upd_same ?_
    rw [hide_new hp]
    exact p1
theorem o_all : Op1 K (fun v H Q => (fun xs H Q => ∃ (a : Addr) (bs : List Bool), xs = [.ref a] ∧ SqL K H a (bs.map V.bl) ∧ Q (.bl (bs.all id)) H) [v] H Q) (lo rBool) (vs rBool) (fun l => some (l.all id)) := fun S H v x y ad ⟨a, xs, e, s, p⟩ hz Q k => by
  subst e; cases hz
  rw [of_paired_bools p] at s
  exact ⟨a, x, rfl, s, k _ H (Same.refl H) rfl⟩
/-! ints by built-ins -/
theorem o_max2 : Op2 K (fun v w H Q => (fun xs H Q => ∃ i j, xs = [.int i, .int j] ∧ Q (.int (if j > i then j else i)) H) [v, w] H Q) (vs rInt) (vs rInt) (vs rInt) (fun i j => some (if j > i then j else i)) := fun S H v w x y z ad a b hz Q k => by
  cases hz; cases a; cases b
  exact ⟨x, y, rfl, k _ H (Same.refl H) rfl⟩
end
end L2

namespace L2
open PySem PySem.Spec PyProof.Rows
/-! ### targets -/
noncomputable def isOwn : Kd → Bool
  | @Kd.own _ _ _ _ => true
  | _ => false
noncomputable def GJ {α : Type} (K : PySem.W.Frag) (g : TG) (q : Rp α) (idx : List Nat) (f : List Kd → α → List Kd) : Prop :=
  (∀ ks x (i : Nat) k, (f ks x)[i]? = some k → isOwn k = true → ks[i]? = some k ∧ i ∉ idx) ∧
  ∀ S H ks σ v x, AdmL S H → EnvOk K S H ks σ → q K (hide S H) v x → ∀ Q : St → Hp → Prop, (∀ σ', σ'.length = σ.length → (∀ (i : Nat), i ∉ idx → σ'[i]? = σ[i]?) → EnvOk K S H (f ks x) σ' → Q σ' H) → g v σ H Q
section
variable {K : PySem.W.Frag} {ks : List Kd} {α β γ δ : Type}
theorem set_own {ks : List Kd} {i j : Nat} {r : Rp α} [StaC r] {x : α} {k : Kd} (h : (ks.set i (Kd.vis r x))[j]? = some k) (ho : isOwn k = true) : ks[j]? = some k ∧ i ≠ j := by
  by_cases e : i = j
  · subst e
    by_cases hi : i < ks.length
    · rw [List.getElem?_set_self hi] at h; cases h; cases ho
    · rw [List.getElem?_eq_none (by rw [List.length_set]; omega)] at h; cases h
  · rw [List.getElem?_set_ne e] at h; exact ⟨h, e⟩
theorem gj_name {i : Nat} {r : Rp α} [StaC r] : GJ K (gName i) r [i] (fun ks x => ks.set i (Kd.vis r x)) :=
  ⟨fun ks x j k h ho => ⟨(set_own h ho).1, by simpa using Ne.symm (set_own h ho).2⟩, fun S H ks σ v x ad en q Q k => k _ (List.length_set) (fun j hj => List.getElem?_set_ne (by simpa using Ne.symm (by simpa using hj))) (en.set ⟨v, rfl, q⟩)⟩
theorem gj_pair {i j : Nat} {r : Rp α} {q : Rp β} [StaC r] [StaC q] : GJ K (gTup K 2 (gCons (gName i) (gCons (gName j) gNil))) (rPr r q) [i, j] (fun ks p => (ks.set i (Kd.vis r p.1)).set j (Kd.vis q p.2)) := by
  refine ⟨fun ks x n k h ho => ?_, fun S H ks σ v x ad en ⟨a, u1, u2, e, s, z1, z2⟩ Q k => ?_⟩
  · obtain ⟨h1, h2⟩ := set_own h ho
    obtain ⟨h3, h4⟩ := set_own h1 ho
    exact ⟨h3, by simp; exact ⟨Ne.symm h4, Ne.symm h2⟩⟩
  · subst e
    refine ⟨a, _, rfl, hide_same.sqT s, rfl, u1, [u2], rfl, u2, [], rfl, rfl, ?_⟩
    refine k _ (by rw [List.length_set, List.length_set]) (fun n hn => ?_) ((en.set (k := Kd.vis r x.1) ⟨u1, rfl, z1⟩).set (k := Kd.vis q x.2) ⟨u2, rfl, z2⟩)
    have h1 : n ≠ i ∧ n ≠ j := by simpa using hn
    rw [List.getElem?_set_ne (Ne.symm h1.2), List.getElem?_set_ne (Ne.symm h1.1)]
/-! ### comprehensions -/
noncomputable def compM {α β : Type} (c : α → Option Bool) (e : α → Option β) : List α → Option (List β)
  | [] => some []
  | x :: xs => (c x).bind fun b => if b = true then (e x).bind fun y => (compM c e xs).bind fun ys => some (y :: ys) else compM c e xs
noncomputable def compL {α β : Type} (c : α → Option Bool) (e : α → Option β) (l : List α) : Option (List β) := chk (l.length ≤ 1000) (compM c e l)
noncomputable def rangeI (lo : Int) (n : Nat) : List Int := (List.range n).map fun (i : Nat) => lo + (i : Int)
noncomputable def kin (n : Nat) (fr : List (Str × Nat)) (ks : List Kd) : List Kd := List.replicate n Kd.any ++ fr.map fun p => (ks[p.2]?).getD .any
theorem env_in {S : List Addr} {H : Hp} {σ : St} {own : List Str} {fr : List (Str × Nat)} (h : EnvOk K S H ks σ) : EnvOk K S H (kin own.length fr ks) (st0 own fr σ) := by
  refine ⟨by simp [kin, st0], fun i k e => ?_⟩
  unfold kin at e
  unfold st0
  by_cases hi : i < own.length
  · rw [List.getElem?_append_left (by simpa using hi)] at e ⊢
    rw [List.getElem?_map, List.getElem?_eq_getElem hi]
    rw [List.getElem?_replicate, if_pos hi] at e
    cases e
    exact ⟨_, rfl, trivial⟩
  · rw [List.getElem?_append_right (by simpa using hi), List.length_replicate, List.getElem?_map] at e
    rw [List.getElem?_append_right (by simpa using hi), List.length_map, List.getElem?_map]
    cases hp : fr[i - own.length]? with
    | none => rw [hp] at e; cases e
    | some p =>
      rw [hp] at e
      refine ⟨σ.getD p.2 none, rfl, ?_⟩
      have e' : (ks[p.2]?).getD Kd.any = k := Option.some.inj e
      cases hk : ks[p.2]? with
      | none => rw [hk] at e'; subst e'; trivial
      | some k' =>
        rw [hk] at e'
        have e2 : k' = k := e'
        subst e2
        obtain ⟨o, h1, h2⟩ := h.get p.2 k' hk
        have : σ.getD p.2 none = o := by rw [List.getD_eq_getElem?_getD, h1]; rfl
        rw [this]; exact h2
theorem Wk.of : ∀ {s t : St}, t.length = s.length → (∀ (i : Nat) v, s[i]? = some (some v) → t[i]? = some (some v)) → Wk s t
  | [], [], _, _ => .nil
  | [], _ :: _, h, _ => by cases h
  | _ :: _, [], h, _ => by cases h
  | none :: s, x :: t, h, g => .cn (Wk.of (by simpa using h) fun i v e => by simpa using g (i + 1) v (by simpa using e))
  | some v :: s, x :: t, h, g => by
    have e : x = some v := by simpa using g 0 v rfl
    subst e
    exact .cs (Wk.of (by simpa using h) fun i v e => by simpa using g (i + 1) v (by simpa using e))
theorem wk_idx {own : List Str} {fr : List (Str × Nat)} {σ σ' : St} {idx : List Nat} (hi : ∀ i ∈ idx, i < own.length) (h1 : σ'.length = (st0 own fr σ).length) (h2 : ∀ (i : Nat), i ∉ idx → σ'[i]? = (st0 own fr σ)[i]?) : Wk (st0 own fr σ) σ' := by
  refine Wk.of h1 fun i v e => ?_
  by_cases h : i ∈ idx
  · have hl := hi i h
    unfold st0 at e
    rw [List.getElem?_append_left (by simpa using hl), List.getElem?_map, List.getElem?_eq_getElem hl] at e
    cases e
  · rw [h2 i h]; exact e
/-- the turn that both kinds of comprehension share -/
theorem comp_turn {rα : Rp α} {rβ : Rp β} [hα : StaC rα] [hβ : StaC rβ] {own : List Str} {fr : List (Str × Nat)} {g : TG} {tc : TT} {te : TE} {idx : List Nat} {f : List Kd → α → List Kd} {c : α → Option Bool} {e : α → Option β}
    (hg : GJ K g rα idx f) (hi : ∀ i ∈ idx, i < own.length) (hc : ∀ x, EvT K (f (kin own.length fr ks) x) tc (c x)) (he : ∀ x, Ev K (f (kin own.length fr ks) x) te (vs rβ) (e x))
    {S : List Addr} {σ : St} {H1 H' : Hp} {D : Addr} {ys : List V} {v : V} {x : α} {l : List α} {o1 : List β} {a1 : List β} {ot : List β}
    (ad : AdmL (S ++ [D]) H') (en : EnvOk K (S ++ [D]) H' ks σ) (hD : H1 D = none) (sm : Same H1 H') (hd : H' D = some (.lst ys)) (hv : rα K (hide (S ++ [D]) H') v x) (ho : compM c e (x :: l) = some o1) (hot : ot = a1 ++ o1) (hp : Paired (rβ K (hide (S ++ [D]) H')) ys a1)
    (Pn : List V → Hp → Prop) (hn : ∀ zs H2 o2 a2, Same H1 H2 → H2 D = some (.lst zs) → compM c e l = some o2 → ot = a2 ++ o2 → a2.length ≤ a1.length + 1 → Paired (rβ K (hide (S ++ [D]) H2)) zs a2 → Same (hide (S ++ [D]) H') (hide (S ++ [D]) H2) → Pn zs H2) :
    g v (st0 own fr σ) H' fun σ2 H4 => Wk (st0 own fr σ) σ2 ∧ tc σ2 H4 fun b H5 => if b = true then te σ2 H5 fun v H6 => H6 D = some (.lst ys) ∧ Pn (ys ++ [v]) (upd H6 D (.lst (ys ++ [v]))) else Pn ys H5 := by
  refine hg.2 (S ++ [D]) H' _ _ v x ad (env_in en) hv _ fun σ2 h1 h2 en2 => ⟨wk_idx hi h1 h2, ?_⟩
  obtain ⟨b, hb, ho⟩ := bind_some ho
  refine hc x b hb _ σ2 H' ad en2 _ fun H5 e5 => ?_
  cases b with
  | false => exact iteF (hn ys H5 o1 a1 (sm.trans e5) (e5 _ _ hd) ho hot (by omega) (hp.sta e5.hide) e5.hide)
  | true =>
    obtain ⟨y, hy, ho⟩ := bind_some ho
    obtain ⟨o2, ho2, ho⟩ := bind_some ho
    cases ho
    refine iteT (he x y hy _ σ2 H5 (ad.same e5) (en2.same e5) _ fun u H6 e6 z6 => ⟨e6 _ _ (e5 _ _ hd), ?_⟩)
    have hs : hide (S ++ [D]) (upd H6 D (.lst (ys ++ [u]))) = hide (S ++ [D]) H6 := hide_upd (by simp)
    refine hn _ _ o2 (a1 ++ [y]) ((sm.trans (e5.trans e6)).upd hD) upd_same ho2 (by rw [hot]; simp) (by simp) ?_ ?_
    · rw [hs]; exact Paired.snoc (hp.sta (e5.trans e6).hide) z6
    · rw [hs]; exact (e5.trans e6).hide
/-- what holds at turn i -/
noncomputable def CInv (K : PySem.W.Frag) (rβ : Rp β) (S : List Addr) (H1 : Hp) (D : Addr) (c : α → Option Bool) (e : α → Option β) (l : List α) (z : List β) (i : Nat) (ys : List V) (H' : Hp) : Prop :=
  Same H1 H' ∧ H' D = some (.lst ys) ∧ Same (hide S H1) (hide (S ++ [D]) H') ∧ ∃ o1 a1, compM c e (l.drop i) = some o1 ∧ z = a1 ++ o1 ∧ a1.length ≤ i ∧ Paired (rβ K (hide (S ++ [D]) H')) ys a1
theorem en_compL {rα : Rp α} {rβ : Rp β} [hα : StaC rα] [hβ : StaC rβ] {own : List Str} {fr : List (Str × Nat)} {g : TG} {tc : TT} {te tl : TE} {idx : List Nat} {f : List Kd → α → List Kd} {c : α → Option Bool} {e : α → Option β} {m : Option (List α)}
    (hl : Ev K ks tl (lo rα) m) (hg : GJ K g rα idx f) (hc : ∀ x, EvT K (f (kin own.length fr ks) x) tc (c x)) (he : ∀ x, Ev K (f (kin own.length fr ks) x) te (vs rβ) (e x)) (hi : ∀ i ∈ idx, i < own.length := by decide) :
    EvN K ks (tComp own fr (iList K tl) g tc te) rβ (B1 (compL c e) m) := fun z hz S σ H ad en Q k => by
  obtain ⟨l, hl', hz⟩ := bind_some hz
  obtain ⟨c0, hz⟩ := chk_some hz
  · refine hl l hl' S σ H ad en _ fun v H1 e1 ⟨a, xs, ea, s1, p1⟩ => ⟨a, ea, ⟨xs, s1⟩, comp_list (xs := xs) fun D hD => ?_⟩
    have hlen := paired_len p1
    have en1 : EnvOk K S H1 ks σ := en.same e1
    have hnew : hide (S ++ [D]) (upd H1 D (.lst [])) = hide S H1 := hide_new hD
    have en2 : EnvOk K (S ++ [D]) (upd H1 D (.lst [])) ks σ := by
      refine ⟨en1.len, fun i k hk => ?_⟩
      obtain ⟨o, h1, h2⟩ := en1.get i k hk
      refine ⟨o, h1, ?_⟩
      cases k with
      | any => trivial
      | @vis α r hr x => obtain ⟨v, h3, h4⟩ := h2; exact ⟨v, h3, by rw [hnew]; exact h4⟩
      | @own α r hr l =>
        obtain ⟨b, xs, h3, h4, h5, h6⟩ := h2
        exact ⟨b, xs, h3, List.mem_append_left _ h4, (Same.new hD _) _ _ h5, by rw [hnew]; exact h6⟩
    have ad2 : AdmL (S ++ [D]) (upd H1 D (.lst [])) := ((ad.same e1).same (Same.new hD _)).push upd_same
    refine ⟨CInv K rβ S H1 D c e l z,
      ⟨Same.new hD _, upd_same, by rw [hnew]; exact Same.refl _, z, [], hz, rfl, Nat.le_refl _, .nil⟩, ?_, ?_, ?_⟩
    · rintro i ys H' hil ⟨sm, hd, _, o1, a1, _, _, hl1, hp⟩
      refine ⟨sm.seq s1, hd, ?_⟩
      have := paired_len hp
      exact small1000 (by omega)
    · rintro i x ys H' hx ⟨sm, hd, mi, o1, a1, ho, hot, hl1, hp⟩
      obtain ⟨y, hy, hyr⟩ := paired_getL p1 hx
      have hdrop : l.drop i = y :: l.drop (i + 1) := by
        obtain ⟨hi', e'⟩ := List.getElem?_eq_some_iff.mp hy
        rw [← e']; exact List.drop_eq_getElem_cons hi'
      rw [hdrop] at ho
      have adH : AdmL (S ++ [D]) H' := fun b hb => by
        rcases List.mem_append.mp hb with hb | hb
        · exact ((ad.same e1).same sm) b hb
        · rw [List.mem_singleton.mp hb]; exact ⟨ys, hd⟩
      have enH : EnvOk K (S ++ [D]) H' ks σ := by
        refine ⟨en1.len, fun i k hk => ?_⟩
        obtain ⟨o, h1, h2⟩ := en1.get i k hk
        refine ⟨o, h1, ?_⟩
        cases k with
        | any => trivial
        | @vis α r hr x => obtain ⟨v, h3, h4⟩ := h2; exact ⟨v, h3, hr.sta _ _ _ _ _ mi h4⟩
        | @own α r hr l =>
          obtain ⟨b, xs, h3, h4, h5, h6⟩ := h2
          exact ⟨b, xs, h3, List.mem_append_left _ h4, sm _ _ h5, h6.sta mi⟩
      refine comp_turn (H1 := H1) hg hi hc he adH enH hD sm hd (hα.sta _ _ _ _ _ mi hyr) ho hot hp (CInv K rβ S H1 D c e l z (i + 1)) fun zs H2 o2 a2 h1 h2 h3 h4 h5 h6 h7 => ?_
      exact ⟨h1, h2, mi.trans h7, o2, a2, h3, h4, by omega, h6⟩
    · rintro ys H' hd ⟨sm, _, mi, o1, a1, ho, hot, hl1, hp⟩
      rw [hlen, List.drop_length] at ho
      cases ho
      rw [List.append_nil] at hot
      subst hot
      exact k D ys H' (e1.free hD) (e1.trans sm) hd hp
theorem rangeI_cons (lo : Int) (n i : Nat) (h : i < n) : (rangeI lo n).drop i = (lo + (i : Int)) :: (rangeI lo n).drop (i + 1) := by
  have hi : i < (rangeI lo n).length := by simp [rangeI, h]
  rw [List.drop_eq_getElem_cons hi]
  congr 1
  simp [rangeI]
theorem rangeI_len (lo : Int) (n : Nat) : (rangeI lo n).length = n := by simp [rangeI]
/-- over lo, lo + 1, .. -/
theorem comp_rng {rβ : Rp β} [hβ : StaC rβ] {own : List Str} {fr : List (Str × Nat)} {g : TG} {tc : TT} {te : TE} {idx : List Nat} {f : List Kd → Int → List Kd} {c : Int → Option Bool} {e : Int → Option β} {lo : Int} {n : Nat} {z : List β}
    (hg : GJ K g rInt idx f) (hc : ∀ x, EvT K (f (kin own.length fr ks) x) tc (c x)) (he : ∀ x, Ev K (f (kin own.length fr ks) x) te (vs rβ) (e x)) (hi : ∀ i ∈ idx, i < own.length)
    (hz : compL c e (rangeI lo n) = some z) {S : List Addr} {σ : St} {H H1 : Hp} (ad : AdmL S H) (en : EnvOk K S H ks σ) (e1 : Same H H1) {Q : VK} (k : ∀ a xs H', H a = none → Same H H' → H' a = some (.lst xs) → Paired (rβ K (hide (S ++ [a]) H')) xs z → Q (.ref a) H') :
    CompR own fr g tc te σ Q (Itr lo n) H1 := by
  obtain ⟨c0, hz⟩ := chk_some hz
  · rw [rangeI_len] at c0
    refine comp_range fun D hD => ?_
    have en1 : EnvOk K S H1 ks σ := en.same e1
    have hnew : hide (S ++ [D]) (upd H1 D (.lst [])) = hide S H1 := hide_new hD
    refine ⟨CInv K rβ S H1 D c e (rangeI lo n) z,
      ⟨Same.new hD _, upd_same, by rw [hnew]; exact Same.refl _, z, [], hz, rfl, Nat.le_refl _, .nil⟩, ?_, ?_, ?_⟩
    · rintro i ys H' hil ⟨sm, hd, _, o1, a1, _, _, hl1, hp⟩
      refine ⟨hd, ?_⟩
      have := paired_len hp
      exact small1000 (by omega)
    · rintro i ys H' hx ⟨sm, hd, mi, o1, a1, ho, hot, hl1, hp⟩
      rw [rangeI_cons lo n i hx] at ho
      have adH : AdmL (S ++ [D]) H' := fun b hb => by
        rcases List.mem_append.mp hb with hb | hb
        · exact ((ad.same e1).same sm) b hb
        · rw [List.mem_singleton.mp hb]; exact ⟨ys, hd⟩
      have enH : EnvOk K (S ++ [D]) H' ks σ := by
        refine ⟨en1.len, fun i k hk => ?_⟩
        obtain ⟨o, h1, h2⟩ := en1.get i k hk
        refine ⟨o, h1, ?_⟩
        cases k with
        | any => trivial
        | @vis α r hr x => obtain ⟨v, h3, h4⟩ := h2; exact ⟨v, h3, hr.sta _ _ _ _ _ mi h4⟩
        | @own α r hr l =>
          obtain ⟨b, xs, h3, h4, h5, h6⟩ := h2
          exact ⟨b, xs, h3, List.mem_append_left _ h4, sm _ _ h5, h6.sta mi⟩
      refine comp_turn (rα := rInt) (H1 := H1) hg hi hc he adH enH hD sm hd rfl ho hot hp (CInv K rβ S H1 D c e (rangeI lo n) z (i + 1)) fun zs H2 o2 a2 h1 h2 h3 h4 h5 h6 h7 => ?_
      exact ⟨h1, h2, mi.trans h7, o2, a2, h3, h4, by omega, h6⟩
    · rintro ys H' hd ⟨sm, _, mi, o1, a1, ho, hot, hl1, hp⟩
      rw [show (rangeI lo n).drop n = [] by apply List.drop_eq_nil_of_le; rw [rangeI_len]; exact Nat.le_refl _] at ho
      cases ho
      rw [List.append_nil] at hot
      subst hot
      exact k D ys H' (e1.free hD) (e1.trans sm) hd hp
noncomputable def rngOk (j : Int) : Prop := -(2 ^ 62) ≤ j ∧ j < 2 ^ 62
noncomputable def range1 (j : Int) : Option (List Int) := chk (rngOk j) (some (rangeI 0 j.toNat))
noncomputable def range2 (i j : Int) : Option (List Int) := chk (rngOk i ∧ rngOk j) (some (rangeI i (j - i).toNat))
theorem en_compR1 {rβ : Rp β} [hβ : StaC rβ] {own : List Str} {fr : List (Str × Nat)} {g : TG} {tc : TT} {te ta : TE} {idx : List Nat} {f : List Kd → Int → List Kd} {c : Int → Option Bool} {e : Int → Option β} {m : Option Int}
    (hl : Ev K ks ta (vs rInt) m) (hg : GJ K g rInt idx f) (hc : ∀ x, EvT K (f (kin own.length fr ks) x) tc (c x)) (he : ∀ x, Ev K (f (kin own.length fr ks) x) te (vs rβ) (e x)) (hi : ∀ i ∈ idx, i < own.length := by decide) :
    EvN K ks (tComp own fr (iRng1 (tCons ta tNil)) g tc te) rβ (B1 (compL c e) (B1 range1 m)) := fun z hz S σ H ad en Q k => by
  obtain ⟨l, hl', hz⟩ := bind_some hz
  obtain ⟨j, hj, hl'⟩ := bind_some hl'
  obtain ⟨c1, hl'⟩ := chk_some hl'
  · cases hl'
    exact hl j hj S σ H ad en _ fun v H1 e1 z1 => ⟨j, by rw [show v = .int j from z1], c1.1, c1.2, comp_rng hg hc he hi hz ad en e1 k⟩
theorem en_compR2 {rβ : Rp β} [hβ : StaC rβ] {own : List Str} {fr : List (Str × Nat)} {g : TG} {tc : TT} {te ta tb : TE} {idx : List Nat} {f : List Kd → Int → List Kd} {c : Int → Option Bool} {e : Int → Option β} {m n : Option Int}
    (ha : Ev K ks ta (vs rInt) m) (hb : Ev K ks tb (vs rInt) n) (hg : GJ K g rInt idx f) (hc : ∀ x, EvT K (f (kin own.length fr ks) x) tc (c x)) (he : ∀ x, Ev K (f (kin own.length fr ks) x) te (vs rβ) (e x)) (hi : ∀ i ∈ idx, i < own.length := by decide) :
    EvN K ks (tComp own fr (iRng2 (tCons ta (tCons tb tNil))) g tc te) rβ (B1 (compL c e) (B2 range2 m n)) := fun z hz S σ H ad en Q k => by
  obtain ⟨l, hl', hz⟩ := bind_some hz
  obtain ⟨i, hi', hl'⟩ := bind_some hl'
  obtain ⟨j, hj, hl'⟩ := bind_some hl'
  obtain ⟨⟨c1, c2⟩, hl'⟩ := chk_some hl'
  · cases hl'
    exact ha i hi' S σ H ad en _ fun v H1 e1 z1 => hb j hj S σ H1 (ad.same e1) (en.same e1) _ fun w H2 e2 z2 => ⟨i, j, by rw [show v = .int i from z1, show w = .int j from z2], ⟨c1.1, c1.2, c2.1, c2.2⟩, comp_rng hg hc he hi hz ad en (e1.trans e2) k⟩
theorem et_noIf : EvT K ks tNoIf (some true) := fun b hb S σ H ad en Q k => by cases hb; exact k H (Same.refl H)
/-! ### calls -/
noncomputable abbrev Rr (α : Type) := PySem.W.Frag → List Addr → Hp → Hp → V → α → Prop
noncomputable def rtV {α : Type} (r : Rp α) : Rr α := fun K S _ H' v y => r K (hide S H') v y
noncomputable def rtN {α : Type} (r : Rp α) : Rr (List α) := fun K S H0 H' v l => ∃ a xs, v = .ref a ∧ H0 a = none ∧ H' a = some (.lst xs) ∧ Paired (r K (hide (S ++ [a]) H')) xs l
variable {ε : Type}
inductive sp1 (r1 : Rp α) (rr : Rr ε) (f : α → Option ε) (K : PySem.W.Frag) (us : List V) (H : Hp) (Q : VK) (E : XK) : Prop
  | mk (S x1 v1 y) (c0 : us = [v1]) (c1 : AdmL S H) (c2 : r1 K (hide S H) v1 x1) (c3 : f x1 = some y) (c4 : ∀ u H', Same H H' → rr K S H H' u y → Q u H') : sp1 r1 rr f K us H Q E
inductive sp2 (r1 : Rp α) (r2 : Rp β) (rr : Rr ε) (f : α → β → Option ε) (K : PySem.W.Frag) (us : List V) (H : Hp) (Q : VK) (E : XK) : Prop
  | mk (S x1 x2 v1 v2 y) (c0 : us = [v1, v2]) (c1 : AdmL S H) (c2 : r1 K (hide S H) v1 x1) (c3 : r2 K (hide S H) v2 x2) (c4 : f x1 x2 = some y) (c5 : ∀ u H', Same H H' → rr K S H H' u y → Q u H') : sp2 r1 r2 rr f K us H Q E
inductive sp3 (r1 : Rp α) (r2 : Rp β) (r3 : Rp γ) (rr : Rr ε) (f : α → β → γ → Option ε) (K : PySem.W.Frag) (us : List V) (H : Hp) (Q : VK) (E : XK) : Prop
  | mk (S x1 x2 x3 v1 v2 v3 y) (c0 : us = [v1, v2, v3]) (c1 : AdmL S H) (c2 : r1 K (hide S H) v1 x1) (c3 : r2 K (hide S H) v2 x2) (c4 : r3 K (hide S H) v3 x3) (c5 : f x1 x2 x3 = some y) (c6 : ∀ u H', Same H H' → rr K S H H' u y → Q u H') : sp3 r1 r2 r3 rr f K us H Q E
inductive sp4 (r1 : Rp α) (r2 : Rp β) (r3 : Rp γ) (r4 : Rp δ) (rr : Rr ε) (f : α → β → γ → δ → Option ε) (K : PySem.W.Frag) (us : List V) (H : Hp) (Q : VK) (E : XK) : Prop
  | mk (S x1 x2 x3 x4 v1 v2 v3 v4 y) (c0 : us = [v1, v2, v3, v4]) (c1 : AdmL S H) (c2 : r1 K (hide S H) v1 x1) (c3 : r2 K (hide S H) v2 x2) (c4 : r3 K (hide S H) v3 x3) (c5 : r4 K (hide S H) v4 x4) (c6 : f x1 x2 x3 x4 = some y) (c7 : ∀ u H', Same H H' → rr K S H H' u y → Q u H') : sp4 r1 r2 r3 r4 rr f K us H Q E
/-- what a call gives -/
noncomputable def EvR (K : PySem.W.Frag) (ks : List Kd) (t : TE) (rr : Rr ε) (m : Option ε) : Prop :=
  ∀ x, m = some x → ∀ (S : List Addr) (σ : St) (H : Hp), AdmL S H → EnvOk K S H ks σ → ∀ Q : VK, (∀ v H0 H', Same H H0 → Same H0 H' → rr K S H0 H' v x → Q v H') → t σ H Q
theorem EvR.ev {t : TE} {r : Rp ε} {m : Option ε} (h : EvR K ks t (rtV r) m) : Ev K ks t (vs r) m := fun x hx S σ H ad en Q k => h x hx S σ H ad en Q fun v H0 H' e0 e1 z => k v H' (e0.trans e1) z
theorem EvR.en {t : TE} {r : Rp ε} {m : Option (List ε)} (h : EvR K ks t (rtN r) m) : EvN K ks t r m := fun x hx S σ H ad en Q k => h x hx S σ H ad en Q fun v H0 H' e0 e1 ⟨a, xs, ea, hn, h1, p⟩ => by subst ea; exact k a xs H' (e0.free hn) (e0.trans e1) h1 p
theorem er_1 {r1 : Rp α} {rr : Rr ε} {f : α → Option ε} {E : XK} {ta : TE} {m : Option α} (ha : Ev K ks ta (vs r1) m) : EvR K ks (tCall (sp1 r1 rr f K) [] E (tCons ta tNil)) rr (B1 f m) := fun z hz S σ H ad en Q k => by
  obtain ⟨x, hx, hz⟩ := bind_some hz
  exact ha x hx S σ H ad en _ fun v H1 e1 z1 => ⟨S, x, v, z, rfl, ad.same e1, z1, hz, fun u H' e' z' => k u H1 H' e1 e' z'⟩
theorem er_2 {r1 : Rp α} {r2 : Rp β} {rr : Rr ε} [h1 : StaC r1] {f : α → β → Option ε} {E : XK} {ta tb : TE} {m : Option α} {n : Option β} (ha : Ev K ks ta (vs r1) m) (hb : Ev K ks tb (vs r2) n) : EvR K ks (tCall (sp2 r1 r2 rr f K) [] E (tCons ta (tCons tb tNil))) rr (B2 f m n) := fun z hz S σ H ad en Q k => by
  obtain ⟨x, hx, hz⟩ := bind_some hz
  obtain ⟨y, hy, hz⟩ := bind_some hz
  exact ha x hx S σ H ad en _ fun v H1 e1 z1 => hb y hy S σ H1 (ad.same e1) (en.same e1) _ fun w H2 e2 z2 => ⟨S, x, y, v, w, z, rfl, ad.same (e1.trans e2), h1.sta _ _ _ _ _ e2.hide z1, z2, hz, fun u H' e' z' => k u H2 H' (e1.trans e2) e' z'⟩
theorem er_3 {r1 : Rp α} {r2 : Rp β} {r3 : Rp γ} {rr : Rr ε} [h1 : StaC r1] [h2 : StaC r2] {f : α → β → γ → Option ε} {E : XK} {ta tb tc : TE} {m : Option α} {n : Option β} {o : Option γ} (ha : Ev K ks ta (vs r1) m) (hb : Ev K ks tb (vs r2) n) (hc : Ev K ks tc (vs r3) o) : EvR K ks (tCall (sp3 r1 r2 r3 rr f K) [] E (tCons ta (tCons tb (tCons tc tNil)))) rr (B3 f m n o) := fun z hz S σ H ad en Q k => by
  obtain ⟨x, hx, hz⟩ := bind_some hz
  obtain ⟨y, hy, hz⟩ := bind_some hz
  obtain ⟨c, hc', hz⟩ := bind_some hz
  exact ha x hx S σ H ad en _ fun v H1 e1 z1 => hb y hy S σ H1 (ad.same e1) (en.same e1) _ fun w H2 e2 z2 => hc c hc' S σ H2 (ad.same (e1.trans e2)) (en.same (e1.trans e2)) _ fun w3 H3 e3 z3 => ⟨S, x, y, c, v, w, w3, z, rfl, ad.same (e1.trans (e2.trans e3)), h1.sta _ _ _ _ _ (e2.trans e3).hide z1, h2.sta _ _ _ _ _ e3.hide z2, z3, hz, fun u H' e' z' => k u H3 H' (e1.trans (e2.trans e3)) e' z'⟩
theorem er_4 {r1 : Rp α} {r2 : Rp β} {r3 : Rp γ} {r4 : Rp δ} {rr : Rr ε} [h1 : StaC r1] [h2 : StaC r2] [h3 : StaC r3] {f : α → β → γ → δ → Option ε} {E : XK} {ta tb tc td : TE} {m : Option α} {n : Option β} {o : Option γ} {p : Option δ} (ha : Ev K ks ta (vs r1) m) (hb : Ev K ks tb (vs r2) n) (hc : Ev K ks tc (vs r3) o) (hd : Ev K ks td (vs r4) p) : EvR K ks (tCall (sp4 r1 r2 r3 r4 rr f K) [] E (tCons ta (tCons tb (tCons tc (tCons td tNil))))) rr (B4 f m n o p) := fun z hz S σ H ad en Q k => by
  obtain ⟨x, hx, hz⟩ := bind_some hz
  obtain ⟨y, hy, hz⟩ := bind_some hz
  obtain ⟨c, hc', hz⟩ := bind_some hz
  obtain ⟨d, hd', hz⟩ := bind_some hz
  exact ha x hx S σ H ad en _ fun v H1 e1 z1 => hb y hy S σ H1 (ad.same e1) (en.same e1) _ fun w H2 e2 z2 => hc c hc' S σ H2 (ad.same (e1.trans e2)) (en.same (e1.trans e2)) _ fun w3 H3 e3 z3 => hd d hd' S σ H3 (ad.same (e1.trans (e2.trans e3))) (en.same (e1.trans (e2.trans e3))) _ fun w4 H4 e4 z4 =>
    ⟨S, x, y, c, d, v, w, w3, w4, z, rfl, ad.same (e1.trans (e2.trans (e3.trans e4))), h1.sta _ _ _ _ _ (e2.trans (e3.trans e4)).hide z1, h2.sta _ _ _ _ _ (e3.trans e4).hide z2, h3.sta _ _ _ _ _ e4.hide z3, z4, hz, fun u H' e' z' => k u H4 H' (e1.trans (e2.trans (e3.trans e4))) e' z'⟩
end
end L2

namespace L2
open PySem PySem.Spec PyProof.Rows
/-! ### statements -/
inductive Fl (ρ τ : Type)
  | nx (s : τ)
  | rt (r : ρ)
noncomputable def Fl.sq {ρ τ τ' : Type} (m : Option (Fl ρ τ)) (k : τ → Option (Fl ρ τ')) : Option (Fl ρ τ') := m.bind fun o => match o with
  | .nx s => k s
  | .rt r => some (.rt r)
noncomputable def Fl.mp {ρ τ τ' : Type} (g : τ → τ') (m : Option (Fl ρ τ)) : Option (Fl ρ τ') := m.map fun o => match o with
  | .nx s => .nx (g s)
  | .rt r => .rt r
noncomputable def Fl.nxs {ρ τ : Type} (m : Option τ) : Option (Fl ρ τ) := m.map .nx
noncomputable def Fl.rts {ρ τ : Type} (m : Option ρ) : Option (Fl ρ τ) := m.map .rt
noncomputable def forM {ρ τ α : Type} (body : α → τ → Option (Fl ρ τ)) : List α → τ → Option (Fl ρ τ)
  | [], s => some (.nx s)
  | x :: xs, s => Fl.sq (body x s) fun s' => forM body xs s'
/-- own lists: new since the def's start, none two names' -/
structure OwnOk (H0 : Hp) (ks : List Kd) (σ : St) : Prop where
  new : ∀ (i : Nat) k b, ks[i]? = some k → isOwn k = true → σ[i]? = some (some (.ref b)) → H0 b = none
  inj : ∀ (i j : Nat) k k' b, ks[i]? = some k → isOwn k = true → ks[j]? = some k' → isOwn k' = true → σ[i]? = some (some (.ref b)) → σ[j]? = some (some (.ref b)) → i = j
inductive StOk (K : PySem.W.Frag) (S0 : List Addr) (H0 Hm : Hp) (ks : List Kd) (σ : St) (H : Hp) : Prop
  | mk (S : List Addr) (sub : ∀ b ∈ S0, b ∈ S) (adm : AdmL S H) (sm : Same H0 H) (mile : Same Hm (hide S H)) (env : EnvOk K S H ks σ) (own : OwnOk H0 ks σ) : StOk K S0 H0 Hm ks σ H
noncomputable def SJ {ρ τ : Type} (K : PySem.W.Frag) (ks : List Kd) (t : TS) (m : Option (Fl ρ τ)) (ks' : τ → List Kd) (rr : Rr ρ) : Prop :=
  ∀ o, m = some o → ∀ S0 H0 Hm, AdmL S0 H0 → ∀ (D : Ends) σ H, StOk K S0 H0 Hm ks σ H → (∀ s, o = .nx s → ∀ σ' H', StOk K S0 H0 Hm (ks' s) σ' H' → D.nx σ' H') → (∀ y, o = .rt y → ∀ v H', Same H0 H' → rr K S0 H0 H' v y → D.rt v H') → t D σ H
section
variable {K : PySem.W.Frag} {ks : List Kd} {α β γ δ ρ τ τ' : Type} {rr : Rr ρ}
theorem OwnOk.weak {H0 : Hp} {ks ks' : List Kd} {σ : St} (h : OwnOk H0 ks σ) (w : ∀ (i : Nat) k, ks'[i]? = some k → isOwn k = true → ks[i]? = some k) : OwnOk H0 ks' σ :=
  ⟨fun i k b e o s => h.new i k b (w i k e o) o s, fun i j k k' b e o e' o' s s' => h.inj i j k k' b (w i k e o) o (w j k' e' o') o' s s'⟩
theorem OwnOk.weakS {H0 : Hp} {ks ks' : List Kd} {σ σ' : St} (h : OwnOk H0 ks σ) (w : ∀ (i : Nat) k, ks'[i]? = some k → isOwn k = true → ks[i]? = some k ∧ σ'[i]? = σ[i]?) : OwnOk H0 ks' σ' :=
  ⟨fun i k b e o s => h.new i k b (w i k e o).1 o (by rw [← (w i k e o).2]; exact s), fun i j k k' b e o e' o' s s' => h.inj i j k k' b (w i k e o).1 o (w j k' e' o').1 o' (by rw [← (w i k e o).2]; exact s) (by rw [← (w j k' e' o').2]; exact s')⟩
theorem StOk.weak {S0 : List Addr} {H0 Hm : Hp} {ks ks' : List Kd} {σ : St} {H : Hp} (h : StOk K S0 H0 Hm ks σ H) (w : KWk ks ks') : StOk K S0 H0 Hm ks' σ H := by
  obtain ⟨S, h1, h2, h3, h4, h5, h6⟩ := id h
  refine ⟨S, h1, h2, h3, h4, h5.weak w, h6.weak fun i k e o => ?_⟩
  rcases w.get e with ⟨rfl, _⟩ | e'
  · cases o
  · exact e'
theorem StOk.mile {S0 : List Addr} {H0 Hm Hm' : Hp} {ks : List Kd} {σ : St} {H : Hp} (h : StOk K S0 H0 Hm' ks σ H) (w : Same Hm Hm') : StOk K S0 H0 Hm ks σ H := by
  obtain ⟨S, h1, h2, h3, h4, h5, h6⟩ := id h
  exact ⟨S, h1, h2, h3, w.trans h4, h5, h6⟩
theorem sj_seq {t u : TS} {m : Option (Fl ρ τ)} {ks1 : τ → List Kd} {k : τ → Option (Fl ρ τ')} {ks2 : τ' → List Kd} (h1 : SJ K ks t m ks1 rr) (h2 : ∀ s, SJ K (ks1 s) u (k s) ks2 rr) : SJ K ks (tSeq t u) (Fl.sq m k) ks2 rr := fun o ho S0 H0 Hm ad D σ H st n r => by
  obtain ⟨o1, ho1, ho⟩ := bind_some ho
  cases o1 with
  | nx s => exact h1 _ ho1 S0 H0 Hm ad _ σ H st (fun s' e σ' H' st' => by cases e; exact h2 s o ho S0 H0 Hm ad D σ' H' st' n r) (fun y e => by cases e)
  | rt y =>
    cases ho
    exact h1 _ ho1 S0 H0 Hm ad _ σ H st (fun s' e => by cases e) (fun y' e v H' sm z => by cases e; exact r y rfl v H' sm z)
theorem sj_post {t : TS} {m : Option (Fl ρ τ)} {ks1 : τ → List Kd} {g : τ → τ'} {ks2 : τ' → List Kd} (h1 : SJ K ks t m ks1 rr) (w : ∀ s, KWk (ks1 s) (ks2 (g s))) : SJ K ks t (Fl.mp g m) ks2 rr := fun o ho S0 H0 Hm ad D σ H st n r => by
  obtain ⟨o1, ho1, rfl⟩ := Option.map_eq_some_iff.mp ho
  refine h1 _ ho1 S0 H0 Hm ad _ σ H st (fun s' e σ' H' st' => ?_) (fun y e v H' sm z => ?_)
  · subst e; exact n _ rfl σ' H' (st'.weak (w s'))
  · subst e; exact r y rfl v H' sm z
theorem sj_next {s : τ} {ks' : τ → List Kd} (w : KWk ks (ks' s)) : SJ K ks tNext (some (.nx s)) ks' rr := fun o ho S0 H0 Hm ad D σ H st n r => by
  cases ho; exact n s rfl σ H (st.weak w)
theorem sj_if {tc : TT} {t u : TS} {c : Option Bool} {m n : Option (Fl ρ τ)} {ks' : τ → List Kd} (hc : EvT K ks tc c) (h1 : SJ K ks t m ks' rr) (h2 : SJ K ks u n ks' rr) : SJ K ks (tIfS tc t u) (BIf c m n) ks' rr := fun o ho S0 H0 Hm ad D σ H st nn r => by
  obtain ⟨b, hb, ho⟩ := bind_some ho
  obtain ⟨S, s1, s2, s3, s4, s5, s6⟩ := id st
  refine hc b hb S σ H s2 s5 _ fun H1 e1 => ?_
  have st1 : StOk K S0 H0 Hm ks σ H1 := ⟨S, s1, s2.same e1, s3.trans e1, s4.trans e1.hide, s5.same e1, s6⟩
  cases b with
  | true => exact iteT (h1 o ho S0 H0 Hm ad D σ H1 st1 nn r)
  | false => exact iteF (h2 o ho S0 H0 Hm ad D σ H1 st1 nn r)
theorem sj_asg {te : TE} {g : TG} {q : Rp α} {idx : List Nat} {f : List Kd → α → List Kd} {m : Option α} (he : Ev K ks te (vs q) m) (hg : GJ K g q idx f) : SJ K ks (tAsg te g) (Fl.nxs m) (fun x => f ks x) rr := fun o ho S0 H0 Hm ad D σ H st n r => by
  obtain ⟨x, hx, rfl⟩ := Option.map_eq_some_iff.mp ho
  obtain ⟨S, s1, s2, s3, s4, s5, s6⟩ := id st
  refine he x hx S σ H s2 s5 _ fun v H1 e1 z1 => hg.2 S H1 ks σ v x (s2.same e1) (s5.same e1) z1 _ fun σ' l1 l2 en => n x rfl σ' H1 ?_
  exact ⟨S, s1, s2.same e1, s3.trans e1, s4.trans e1.hide, en, s6.weakS fun i k e o => ⟨(hg.1 ks x i k e o).1, l2 i (hg.1 ks x i k e o).2⟩⟩
theorem sj_set {i : Nat} {te : TE} {r : Rp α} [StaC r] {m : Option α} (he : Ev K ks te (vs r) m) : SJ K ks (tAsg te (gName i)) (Fl.nxs m) (fun x => ks.set i (Kd.vis r x)) rr := sj_asg he gj_name
theorem sj_expr {te : TE} {q : Rq α} {m : Option α} (he : Ev K ks te q m) : SJ K ks (tDrop te) (Fl.nxs (m.map fun _ => ())) (fun _ => ks) rr := fun o ho S0 H0 Hm ad D σ H st n r => by
  obtain ⟨x, hx, rfl⟩ := Option.map_eq_some_iff.mp ho
  obtain ⟨y, hy, rfl⟩ := Option.map_eq_some_iff.mp hx
  obtain ⟨S, s1, s2, s3, s4, s5, s6⟩ := id st
  exact he y hy S σ H s2 s5 _ fun v H1 e1 z1 => n () rfl σ H1 ⟨S, s1, s2.same e1, s3.trans e1, s4.trans e1.hide, s5.same e1, s6⟩
/-- a new list that will be filled -/
theorem sj_own {i : Nat} {te : TE} {r : Rp α} [hr : StaC r] {m : Option (List α)} (he : EvN K ks te r m) : SJ K ks (tAsg te (gName i)) (Fl.nxs m) (fun l => ks.set i (Kd.own r l)) rr := fun o ho S0 H0 Hm ad D σ H st n q => by
  obtain ⟨x, hx, rfl⟩ := Option.map_eq_some_iff.mp ho
  obtain ⟨S, s1, s2, s3, s4, s5, s6⟩ := id st
  refine he x hx S σ H s2 s5 _ fun a xs H1 hn e1 ha p => n x rfl _ H1 ?_
  have mi : Same (hide S H) (hide (S ++ [a]) H1) := fun b o e => by
    obtain ⟨h1, h2⟩ := hide_some e
    rw [hide_out]; · exact e1 _ _ h2
    intro z
    rcases List.mem_append.mp z with z | z
    · exact h1 z
    · rw [List.mem_singleton.mp z, hn] at h2; cases h2
  have en1 : EnvOk K (S ++ [a]) H1 ks σ := by
    refine ⟨s5.len, fun i k hk => ?_⟩
    obtain ⟨o, h1, h2⟩ := s5.get i k hk
    refine ⟨o, h1, ?_⟩
    cases k with
    | any => trivial
    | @vis α r hr x => obtain ⟨v, h3, h4⟩ := h2; exact ⟨v, h3, hr.sta _ _ _ _ _ mi h4⟩
    | @own α r hr l =>
      obtain ⟨b, xs, h3, h4, h5, h6⟩ := h2
      exact ⟨b, xs, h3, List.mem_append_left _ h4, e1 _ _ h5, h6.sta mi⟩
  have hol : ∀ (j : Nat) k b, ks[j]? = some k → isOwn k = true → σ[j]? = some (some (.ref b)) → b ≠ a := fun j k b hk ho hs => by
    obtain ⟨o, h1, h2⟩ := s5.get j k hk
    cases k with
    | any => cases ho
    | @vis α r hr x => cases ho
    | @own α r hr l =>
      obtain ⟨b', xs, h3, h4, h5, h6⟩ := h2
      rw [h1, h3] at hs; cases hs
      rintro rfl; rw [hn] at h5; cases h5
  refine ⟨S ++ [a], fun b hb => List.mem_append_left _ (s1 b hb), (s2.same e1).push ha, s3.trans e1, s4.trans mi, en1.set (k := Kd.own r x) ⟨a, xs, rfl, by simp, ha, p⟩, ?_, ?_⟩
  · intro j k b hk ho hs
    by_cases e : i = j
    · subst e
      by_cases hi : i < σ.length
      · rw [List.getElem?_set_self hi] at hs; cases hs
        exact s3.free hn
      · rw [List.getElem?_eq_none (by rw [List.length_set]; omega)] at hs; cases hs
    · rw [List.getElem?_set_ne e] at hk hs
      exact s6.new j k b hk ho hs
  · intro j j' k k' b hk ho hk' ho' hs hs'
    by_cases e : i = j
    · subst e
      by_cases e' : i = j'
      · exact e'
      · rw [List.getElem?_set_ne e'] at hk' hs'
        by_cases hi : i < σ.length
        · rw [List.getElem?_set_self hi] at hs; cases hs
          exact absurd rfl (hol j' k' _ hk' ho' hs')
        · rw [List.getElem?_eq_none (by rw [List.length_set]; omega)] at hs; cases hs
    · rw [List.getElem?_set_ne e] at hk hs
      by_cases e' : i = j'
      · subst e'
        by_cases hi : i < σ.length
        · rw [List.getElem?_set_self hi] at hs'; cases hs'
          exact absurd rfl (hol j k _ hk ho hs)
        · rw [List.getElem?_eq_none (by rw [List.length_set]; omega)] at hs'; cases hs'
      · rw [List.getElem?_set_ne e'] at hk' hs'
        exact s6.inj j j' k k' b hk ho hk' ho' hs hs'
/-- an own list put otherwise -/
theorem StOk.putOwn {S0 : List Addr} {H0 Hm : Hp} {σ : St} {H : Hp} {i : Nat} {r : Rp α} [hr : StaC r] {l l' : List α} {S : List Addr} {b : Addr} {xs ys : List V} (hi : ks[i]? = some (Kd.own r l)) (hs : σ[i]? = some (some (.ref b))) (hb : b ∈ S) (hx : H b = some (.lst xs)) (p : Paired (r K (hide S H)) ys l')
    (s1 : ∀ b ∈ S0, b ∈ S) (s2 : AdmL S H) (s3 : Same H0 H) (s4 : Same Hm (hide S H)) (s5 : EnvOk K S H ks σ) (s6 : OwnOk H0 ks σ) : StOk K S0 H0 Hm (ks.set i (Kd.own r l')) σ (upd H b (.lst ys)) := by
  have hid : hide S (upd H b (.lst ys)) = hide S H := hide_upd hb
  have hlt : i < ks.length := (List.getElem?_eq_some_iff.mp hi).1
  refine ⟨S, s1, fun c hc => ?_, s3.upd (s6.new i _ b hi rfl hs), by rw [hid]; exact s4, ⟨by rw [List.length_set]; exact s5.len, fun j k hk => ?_⟩, ?_⟩
  · by_cases e : c = b
    · subst e; exact ⟨ys, upd_same⟩
    · rw [upd_ne e]; exact s2 c hc
  · by_cases e : i = j
    · subst e
      rw [List.getElem?_set_self hlt] at hk; cases hk
      exact ⟨_, hs, b, ys, rfl, hb, upd_same, by rw [hid]; exact p⟩
    · rw [List.getElem?_set_ne e] at hk
      obtain ⟨o, h1, h2⟩ := s5.get j k hk
      refine ⟨o, h1, ?_⟩
      cases k with
      | any => trivial
      | @vis α r hr x => obtain ⟨v, h3, h4⟩ := h2; exact ⟨v, h3, by rw [hid]; exact h4⟩
      | @own α r hr l =>
        obtain ⟨b', xs, h3, h4, h5, h6⟩ := h2
        subst h3
        refine ⟨b', xs, rfl, h4, ?_, by rw [hid]; exact h6⟩
        rw [upd_ne]; · exact h5
        rintro rfl
        exact e (s6.inj i j _ _ _ hi rfl hk rfl hs h1)
  · refine ⟨fun j k c hk ho hs' => ?_, fun j j' k k' c hk ho hk' ho' hs1 hs2 => ?_⟩
    · by_cases e : i = j
      · subst e; exact s6.new i _ c hi rfl hs'
      · rw [List.getElem?_set_ne e] at hk; exact s6.new j k c hk ho hs'
    · have key : ∀ n k, (ks.set i (Kd.own r l'))[n]? = some k → isOwn k = true → ∃ k', ks[n]? = some k' ∧ isOwn k' = true := fun n k hk ho => by
        by_cases e : i = n
        · subst e; exact ⟨_, hi, rfl⟩
        · rw [List.getElem?_set_ne e] at hk; exact ⟨k, hk, ho⟩
      obtain ⟨k1, a1, a2⟩ := key j k hk ho
      obtain ⟨k2, b1, b2⟩ := key j' k' hk' ho'
      exact s6.inj j j' k1 k2 c a1 a2 b1 b2 hs1 hs2
noncomputable def pushM {α : Type} (l : List α) (x : α) : Option (List α) := chk (l.length < 1000) (some (l ++ [x]))
theorem sj_append {i : Nat} {te : TE} {r : Rp α} [hr : StaC r] {l : List α} {m : Option α} (he : Ev K ks te (vs r) m) (hi : ks[i]? = some (Kd.own r l) := by rfl) :
    SJ K ks (tDrop (tBM K "list" rAppend (tVar i) (tCons te tNil))) (Fl.nxs (m.bind fun x => pushM l x)) (fun l' => ks.set i (Kd.own r l')) rr := fun o ho S0 H0 Hm ad D σ H st n q => by
  obtain ⟨x, hx, rfl⟩ := Option.map_eq_some_iff.mp ho
  obtain ⟨y, hy, hx⟩ := bind_some hx
  obtain ⟨c, hx⟩ := chk_some hx
  · cases hx
    obtain ⟨S, s1, s2, s3, s4, s5, s6⟩ := id st
    obtain ⟨o, h1, b, xs, rfl, h2, h3, h4⟩ := s5.get i _ hi
    refine ⟨.ref b, h1, .inl ⟨rfl, xs, SqL.of h3⟩, he y hy S σ H s2 s5 _ fun v H1 e1 z1 => ⟨b, xs, v, rfl, rfl, e1 _ _ h3, ?_, n _ rfl σ _ ?_⟩⟩
    · have := paired_len h4
      exact small1000 (by omega)
    · exact StOk.putOwn hi h1 h2 (e1 _ _ h3) (Paired.snoc (h4.sta e1.hide) z1) s1 (s2.same e1) (s3.trans e1) (s4.trans e1.hide) (s5.same e1) s6
/-! return -/
noncomputable def unown : Kd → Kd
  | @Kd.own _ r _ l => Kd.vis (rL r) l
  | k => k
theorem StOk.un {S0 : List Addr} {H0 Hm : Hp} {σ : St} {H : Hp} (ad : AdmL S0 H0) (st : StOk K S0 H0 Hm ks σ H) : AdmL S0 H ∧ EnvOk K S0 H (ks.map unown) σ ∧ Same H0 H := by
  obtain ⟨S, s1, s2, s3, s4, s5, s6⟩ := id st
  refine ⟨ad.same s3, ⟨by rw [List.length_map]; exact s5.len, fun i k hk => ?_⟩, s3⟩
  rw [List.getElem?_map] at hk
  obtain ⟨k', hk', rfl⟩ := Option.map_eq_some_iff.mp hk
  obtain ⟨o, h1, h2⟩ := s5.get i k' hk'
  refine ⟨o, h1, ?_⟩
  have mi : Same (hide S H) (hide S0 H) := hide_sub s1
  cases k' with
  | any => trivial
  | @vis α r hr x => obtain ⟨v, h3, h4⟩ := h2; exact ⟨v, h3, hr.sta _ _ _ _ _ mi h4⟩
  | @own α r hr l =>
    obtain ⟨b, xs, h3, h4, h5, h6⟩ := h2
    subst h3
    refine ⟨.ref b, rfl, b, xs, rfl, ?_, h6.sta mi⟩
    rw [hide_out (ad.ne (s6.new i _ b hk' rfl h1))]; exact h5
theorem sj_ret {te : TE} {r : Rp ρ} {m : Option ρ} {ks' : τ → List Kd} (he : Ev K (ks.map unown) te (vs r) m) : SJ K ks (tRet te) (Fl.rts m) ks' (rtV r) := fun o ho S0 H0 Hm ad D σ H st n q => by
  obtain ⟨x, hx, rfl⟩ := Option.map_eq_some_iff.mp ho
  obtain ⟨a1, a2, a3⟩ := st.un ad
  exact he x hx S0 σ H a1 a2 _ fun v H1 e1 z1 => q x rfl v H1 (a3.trans e1) z1
theorem sj_retN {te : TE} {r : Rp α} {m : Option (List α)} {ks' : τ → List Kd} (he : EvN K (ks.map unown) te r m) : SJ K ks (tRet te) (Fl.rts m) ks' (rtN r) := fun o ho S0 H0 Hm ad D σ H st n q => by
  obtain ⟨x, hx, rfl⟩ := Option.map_eq_some_iff.mp ho
  obtain ⟨a1, a2, a3⟩ := st.un ad
  exact he x hx S0 σ H a1 a2 _ fun a xs H1 hn e1 ha p => q x rfl _ H1 (a3.trans e1) ⟨a, xs, rfl, a3.free hn, ha, p⟩
theorem forR_core {g : TG} {tb : TS} {idx : List Nat} {f : List Kd → Int → List Kd} {s0 : τ} {kh : τ → List Kd} {body : Int → τ → Option (Fl ρ τ)} {lo : Int} {cnt : Nat} {o : Fl ρ τ}
    (hg : GJ K g rInt idx f) (hb : ∀ x s, SJ K (f (kh s) x) tb (body x s) kh rr) (ho : forM body (rangeI lo cnt) s0 = some o) {S0 : List Addr} {H0 Hm : Hp} (ad : AdmL S0 H0) {D : Ends} {σ : St} {H : Hp} (st : StOk K S0 H0 Hm (kh s0) σ H)
    (n : ∀ s, o = .nx s → ∀ σ' H', StOk K S0 H0 Hm (kh s) σ' H' → D.nx σ' H') (q : ∀ y, o = .rt y → ∀ v H', Same H0 H' → rr K S0 H0 H' v y → D.rt v H') :
    ∃ W : Nat → Nat → St → Hp → Prop, (∃ m, W 0 m σ H) ∧ ∀ i m σ H, W i m σ H →
      ((Itr lo cnt).stop i H ∧ D.nx σ H) ∨ ((Itr lo cnt).go i H ∧ ∃ N : St → Hp → Prop, (∀ σ' H', N σ' H' → ∃ m', m' < m ∧ W (i + 1) m' σ' H') ∧ ∀ x H', (Itr lo cnt).yld i H x H' → g x σ H' fun σ2 H2 => tb { D with nx := N, ct := N, bk := D.nx } σ2 H2) := by
  refine for_range (fun i σ' H' => ∃ s, StOk K S0 H0 Hm (kh s) σ' H' ∧ forM body ((rangeI lo cnt).drop i) s = some o) ⟨s0, st, ho⟩ ?_ ?_
  · rintro i σ' H' hi ⟨s, st', ho'⟩
    rw [rangeI_cons lo cnt i hi] at ho'
    obtain ⟨S', t1, t2, t3, t4, t5, t6⟩ := id st'
    refine hg.2 S' H' (kh s) σ' _ (lo + (i : Int)) t2 t5 rfl _ fun σ2 l1 l2 en => ?_
    have st2 : StOk K S0 H0 Hm (f (kh s) (lo + (i : Int))) σ2 H' := ⟨S', t1, t2, t3, t4, en, t6.weakS fun i k e o => ⟨(hg.1 _ _ i k e o).1, l2 i (hg.1 _ _ i k e o).2⟩⟩
    obtain ⟨o1, ho1, ho'⟩ := bind_some ho'
    cases o1 with
    | nx s' => exact hb _ s _ ho1 S0 H0 _ ad _ σ2 H' st2 (fun s2 e σ3 H3 st3 => by cases e; exact ⟨s', st3, ho'⟩) (fun y e => by cases e)
    | rt y' =>
      cases ho'
      exact hb _ s _ ho1 S0 H0 _ ad _ σ2 H' st2 (fun s2 e => by cases e) (fun y2 e v H' sm z => q y2 e v H' sm z)
  · rintro σ' H' ⟨s, st', ho'⟩
    rw [show (rangeI lo cnt).drop cnt = [] by apply List.drop_eq_nil_of_le; rw [rangeI_len]; exact Nat.le_refl _] at ho'
    cases ho'
    exact n s rfl σ' H' st'
theorem StOk.same {S0 : List Addr} {H0 Hm : Hp} {σ : St} {H H1 : Hp} (st : StOk K S0 H0 Hm ks σ H) (e : Same H H1) : StOk K S0 H0 Hm ks σ H1 := by
  obtain ⟨S, s1, s2, s3, s4, s5, s6⟩ := id st
  exact ⟨S, s1, s2.same e, s3.trans e, s4.trans e.hide, s5.same e, s6⟩
theorem sj_forR1 {ta : TE} {g : TG} {tb : TS} {idx : List Nat} {f : List Kd → Int → List Kd} {m : Option Int} {s0 : τ} {kh : τ → List Kd} {body : Int → τ → Option (Fl ρ τ)}
    (ha : Ev K ks ta (vs rInt) m) (w : KWk ks (kh s0)) (hg : GJ K g rInt idx f) (hb : ∀ x s, SJ K (f (kh s) x) tb (body x s) kh rr) :
    SJ K ks (tFor (iRng1 (tCons ta tNil)) g tb) ((B1 range1 m).bind fun l => forM body l s0) kh rr := fun o ho S0 H0 Hm ad D σ H st n q => by
  obtain ⟨l, hl', ho⟩ := bind_some ho
  obtain ⟨j, hj, hl'⟩ := bind_some hl'
  obtain ⟨S, s1, s2, s3, s4, s5, s6⟩ := id st
  obtain ⟨c1, hl'⟩ := chk_some hl'
  · cases hl'
    exact ha j hj S σ H s2 s5 _ fun v H1 e1 z1 => ⟨j, by rw [show v = .int j from z1], c1.1, c1.2, forR_core hg hb ho ad ((st.same e1).weak w) n q⟩
theorem sj_forR2 {ta ta' : TE} {g : TG} {tb : TS} {idx : List Nat} {f : List Kd → Int → List Kd} {m m' : Option Int} {s0 : τ} {kh : τ → List Kd} {body : Int → τ → Option (Fl ρ τ)}
    (ha : Ev K ks ta (vs rInt) m) (ha' : Ev K ks ta' (vs rInt) m') (w : KWk ks (kh s0)) (hg : GJ K g rInt idx f) (hb : ∀ x s, SJ K (f (kh s) x) tb (body x s) kh rr) :
    SJ K ks (tFor (iRng2 (tCons ta (tCons ta' tNil))) g tb) ((B2 range2 m m').bind fun l => forM body l s0) kh rr := fun o ho S0 H0 Hm ad D σ H st n q => by
  obtain ⟨l, hl', ho⟩ := bind_some ho
  obtain ⟨i, hi, hl'⟩ := bind_some hl'
  obtain ⟨j, hj, hl'⟩ := bind_some hl'
  obtain ⟨S, s1, s2, s3, s4, s5, s6⟩ := id st
  obtain ⟨⟨c1, c2⟩, hl'⟩ := chk_some hl'
  · cases hl'
    exact ha i hi S σ H s2 s5 _ fun v H1 e1 z1 => ha' j hj S σ H1 (s2.same e1) (s5.same e1) _ fun v' H2 e2 z2 => ⟨i, j, by rw [show v = .int i from z1, show v' = .int j from z2], ⟨c1.1, c1.2, c2.1, c2.2⟩, forR_core hg hb ho ad ((st.same (e1.trans e2)).weak w) n q⟩
/-! ### a def -/
noncomputable def fin {ρ τ : Type} (m : Option (Fl ρ τ)) : Option ρ := m.bind fun o => match o with
  | .rt r => some r
  | .nx _ => none
noncomputable def finU {τ : Type} (m : Option (Fl Unit τ)) : Option Unit := m.map fun _ => ()
theorem start_ok {S : List Addr} {H : Hp} {N : List Str} {us : List V} {ks0 : List Kd} (hl : us.length = ks0.length) (hN : ks0.length ≤ N.length) (h : ∀ (i : Nat) v k, us[i]? = some v → ks0[i]? = some k → slotOk K S H k (some v)) (hv : ∀ k ∈ ks0, isOwn k = false) (ad : AdmL S H) :
    StOk K S H (hide S H) (ks0 ++ List.replicate (N.length - ks0.length) Kd.any) (start N us) H := by
  refine ⟨S, fun _ h => h, ad, Same.refl H, Same.refl _, ⟨by simp [start, hl], fun i k hk => ?_⟩, ?_, ?_⟩
  · unfold start
    by_cases hi : i < ks0.length
    · rw [List.getElem?_append_left hi] at hk
      rw [List.getElem?_append_left (by simpa [hl] using hi), List.getElem?_map, List.getElem?_eq_getElem (by rw [hl]; exact hi)]
      exact ⟨_, rfl, h i _ k (List.getElem?_eq_getElem (by rw [hl]; exact hi)) hk⟩
    · rw [List.getElem?_append_right (by omega), List.getElem?_replicate] at hk
      rw [List.getElem?_append_right (by simp [hl]; omega), List.getElem?_replicate, List.length_map, hl]
      by_cases c : i - ks0.length < N.length - ks0.length
      · rw [if_pos c] at hk ⊢; cases hk; exact ⟨_, rfl, trivial⟩
      · rw [if_neg c] at hk; cases hk
  · intro i k b hk ho
    exfalso
    by_cases hi : i < ks0.length
    · rw [List.getElem?_append_left hi] at hk
      rw [hv k (List.mem_of_getElem? hk)] at ho; cases ho
    · rw [List.getElem?_append_right (by omega), List.getElem?_replicate] at hk
      split at hk
      · cases hk; cases ho
      · cases hk
  · intro i j k k' b hk ho
    exfalso
    by_cases hi : i < ks0.length
    · rw [List.getElem?_append_left hi] at hk
      rw [hv k (List.mem_of_getElem? hk)] at ho; cases ho
    · rw [List.getElem?_append_right (by omega), List.getElem?_replicate] at hk
      split at hk
      · cases hk; cases ho
      · cases hk
/-- the body against the promise, whatever the number of parameters -/
theorem body_run {S : List Addr} {H : Hp} {N : List Str} {us : List V} {ks0 : List Kd} {t : TS} {m : Option (Fl ρ τ)} {ks' : τ → List Kd} {y : ρ} {Q : VK} (hl : us.length = ks0.length) (hN : ks0.length ≤ N.length) (h : ∀ (i : Nat) v k, us[i]? = some v → ks0[i]? = some k → slotOk K S H k (some v)) (hv : ∀ k ∈ ks0, isOwn k = false) (ad : AdmL S H)
    (hb : SJ K (ks0 ++ List.replicate (N.length - ks0.length) Kd.any) t m ks' rr) (hm : fin m = some y) (q : ∀ u H', Same H H' → rr K S H H' u y → Q u H') : t { nx := fun _ H' => Q .non H', rt := Q } (start N us) H := by
  obtain ⟨o, ho, hm⟩ := bind_some hm
  cases o with
  | nx s => cases hm
  | rt y' =>
    cases hm
    exact hb _ ho S H _ ad _ _ H (start_ok hl hN h hv ad) (fun s e => by cases e) fun y e v H' sm z => by cases e; exact q v H' sm z
theorem body_runU {S : List Addr} {H : Hp} {N : List Str} {us : List V} {ks0 : List Kd} {t : TS} {m : Option (Fl Unit τ)} {ks' : τ → List Kd} {Q : VK} (hl : us.length = ks0.length) (hN : ks0.length ≤ N.length) (h : ∀ (i : Nat) v k, us[i]? = some v → ks0[i]? = some k → slotOk K S H k (some v)) (hv : ∀ k ∈ ks0, isOwn k = false) (ad : AdmL S H)
    (hb : SJ K (ks0 ++ List.replicate (N.length - ks0.length) Kd.any) t m ks' (rtV rUnit)) (hm : finU m = some ()) (q : ∀ u H', Same H H' → rtV rUnit K S H H' u () → Q u H') : t { nx := fun _ H' => Q .non H', rt := Q } (start N us) H := by
  obtain ⟨o, ho, _⟩ := Option.map_eq_some_iff.mp hm
  refine hb _ ho S H _ ad _ _ H (start_ok hl hN h hv ad) (fun s e σ' H' st => ?_) fun y e v H' sm z => q v H' sm z
  obtain ⟨S', _, _, s3, _⟩ := id st
  exact q .non H' s3 rfl
theorem slot1 {S : List Addr} {H : Hp} {r1 : Rp α} [StaC r1] {v1 : V} {x1 : α} (h1 : r1 K (hide S H) v1 x1) : ∀ (i : Nat) v k, [v1][i]? = some v → [Kd.vis r1 x1][i]? = some k → slotOk K S H k (some v) := by
  intro i v k hv hk
  match i with
  | 0 => cases hv; cases hk; exact ⟨_, rfl, h1⟩
  | n + 1 => simp at hv
theorem slotC {S : List Addr} {H : Hp} {r1 : Rp α} [StaC r1] {v1 : V} {x1 : α} {us : List V} {ks0 : List Kd} (h1 : r1 K (hide S H) v1 x1) (h : ∀ (i : Nat) v k, us[i]? = some v → ks0[i]? = some k → slotOk K S H k (some v)) : ∀ (i : Nat) v k, (v1 :: us)[i]? = some v → (Kd.vis r1 x1 :: ks0)[i]? = some k → slotOk K S H k (some v) := by
  intro i v k hv hk
  match i with
  | 0 => cases hv; cases hk; exact ⟨_, rfl, h1⟩
  | n + 1 => exact h n v k (by simpa using hv) (by simpa using hk)
theorem ownC {r1 : Rp α} [StaC r1] {x1 : α} {ks0 : List Kd} (h : ∀ k ∈ ks0, isOwn k = false) : ∀ k ∈ Kd.vis r1 x1 :: ks0, isOwn k = false := fun k hk => by
  rcases List.mem_cons.mp hk with rfl | hk
  · rfl
  · exact h k hk
theorem ownN : ∀ k ∈ ([] : List Kd), isOwn k = false := fun k hk => by cases hk
variable {r1 : Rp α} {r2 : Rp β} {r3 : Rp γ} {r4 : Rp δ} [StaC r1] [StaC r2] [StaC r3] [StaC r4] {N : List Str} {us : List V} {H : Hp} {Q : VK} {E : XK}
theorem run1 {f : α → Option ρ} {t : TS} {m : α → Option (Fl ρ τ)} {ks' : α → τ → List Kd} (h : sp1 r1 rr f K us H Q E) (hf : ∀ x1, f x1 = fin (m x1)) (hb : ∀ x1, SJ K ([Kd.vis r1 x1] ++ List.replicate (N.length - 1) Kd.any) t (m x1) (ks' x1) rr) (hN : 1 ≤ N.length := by decide) :
    t { nx := fun _ H' => Q .non H', rt := Q } (start N us) H := by
  obtain ⟨S, x1, v1, y, rfl, ad, z1, hy, q⟩ := h
  exact body_run (ks0 := [Kd.vis r1 x1]) rfl hN (slot1 z1) (ownC ownN) ad (hb x1) (by rw [← hf]; exact hy) q
theorem run2 {f : α → β → Option ρ} {t : TS} {m : α → β → Option (Fl ρ τ)} {ks' : α → β → τ → List Kd} (h : sp2 r1 r2 rr f K us H Q E) (hf : ∀ x1 x2, f x1 x2 = fin (m x1 x2)) (hb : ∀ x1 x2, SJ K ([Kd.vis r1 x1, Kd.vis r2 x2] ++ List.replicate (N.length - 2) Kd.any) t (m x1 x2) (ks' x1 x2) rr) (hN : 2 ≤ N.length := by decide) :
    t { nx := fun _ H' => Q .non H', rt := Q } (start N us) H := by
  obtain ⟨S, x1, x2, v1, v2, y, rfl, ad, z1, z2, hy, q⟩ := h
  exact body_run (ks0 := [Kd.vis r1 x1, Kd.vis r2 x2]) rfl hN (slotC z1 (slot1 z2)) (ownC (ownC ownN)) ad (hb x1 x2) (by rw [← hf]; exact hy) q
theorem run3 {f : α → β → γ → Option ρ} {t : TS} {m : α → β → γ → Option (Fl ρ τ)} {ks' : α → β → γ → τ → List Kd} (h : sp3 r1 r2 r3 rr f K us H Q E) (hf : ∀ x1 x2 x3, f x1 x2 x3 = fin (m x1 x2 x3)) (hb : ∀ x1 x2 x3, SJ K ([Kd.vis r1 x1, Kd.vis r2 x2, Kd.vis r3 x3] ++ List.replicate (N.length - 3) Kd.any) t (m x1 x2 x3) (ks' x1 x2 x3) rr) (hN : 3 ≤ N.length := by decide) :
    t { nx := fun _ H' => Q .non H', rt := Q } (start N us) H := by
  obtain ⟨S, x1, x2, x3, v1, v2, v3, y, rfl, ad, z1, z2, z3, hy, q⟩ := h
  exact body_run (ks0 := [Kd.vis r1 x1, Kd.vis r2 x2, Kd.vis r3 x3]) rfl hN (slotC z1 (slotC z2 (slot1 z3))) (ownC (ownC (ownC ownN))) ad (hb x1 x2 x3) (by rw [← hf]; exact hy) q
theorem run4 {f : α → β → γ → δ → Option ρ} {t : TS} {m : α → β → γ → δ → Option (Fl ρ τ)} {ks' : α → β → γ → δ → τ → List Kd} (h : sp4 r1 r2 r3 r4 rr f K us H Q E) (hf : ∀ x1 x2 x3 x4, f x1 x2 x3 x4 = fin (m x1 x2 x3 x4)) (hb : ∀ x1 x2 x3 x4, SJ K ([Kd.vis r1 x1, Kd.vis r2 x2, Kd.vis r3 x3, Kd.vis r4 x4] ++ List.replicate (N.length - 4) Kd.any) t (m x1 x2 x3 x4) (ks' x1 x2 x3 x4) rr) (hN : 4 ≤ N.length := by decide) :
    t { nx := fun _ H' => Q .non H', rt := Q } (start N us) H := by
  obtain ⟨S, x1, x2, x3, x4, v1, v2, v3, v4, y, rfl, ad, z1, z2, z3, z4, hy, q⟩ := h
  exact body_run (ks0 := [Kd.vis r1 x1, Kd.vis r2 x2, Kd.vis r3 x3, Kd.vis r4 x4]) rfl hN (slotC z1 (slotC z2 (slotC z3 (slot1 z4)))) (ownC (ownC (ownC (ownC ownN)))) ad (hb x1 x2 x3 x4) (by rw [← hf]; exact hy) q
theorem runU2 {f : α → β → Option Unit} {t : TS} {m : α → β → Option (Fl Unit τ)} {ks' : α → β → τ → List Kd} (h : sp2 r1 r2 (rtV rUnit) f K us H Q E) (hf : ∀ x1 x2, f x1 x2 = finU (m x1 x2)) (hb : ∀ x1 x2, SJ K ([Kd.vis r1 x1, Kd.vis r2 x2] ++ List.replicate (N.length - 2) Kd.any) t (m x1 x2) (ks' x1 x2) (rtV rUnit)) (hN : 2 ≤ N.length := by decide) :
    t { nx := fun _ H' => Q .non H', rt := Q } (start N us) H := by
  obtain ⟨S, x1, x2, v1, v2, y, rfl, ad, z1, z2, hy, q⟩ := h
  exact body_runU (ks0 := [Kd.vis r1 x1, Kd.vis r2 x2]) rfl hN (slotC z1 (slot1 z2)) (ownC (ownC ownN)) ad (hb x1 x2) (by rw [← hf]; exact hy) q
theorem runU3 {f : α → β → γ → Option Unit} {t : TS} {m : α → β → γ → Option (Fl Unit τ)} {ks' : α → β → γ → τ → List Kd} (h : sp3 r1 r2 r3 (rtV rUnit) f K us H Q E) (hf : ∀ x1 x2 x3, f x1 x2 x3 = finU (m x1 x2 x3)) (hb : ∀ x1 x2 x3, SJ K ([Kd.vis r1 x1, Kd.vis r2 x2, Kd.vis r3 x3] ++ List.replicate (N.length - 3) Kd.any) t (m x1 x2 x3) (ks' x1 x2 x3) (rtV rUnit)) (hN : 3 ≤ N.length := by decide) :
    t { nx := fun _ H' => Q .non H', rt := Q } (start N us) H := by
  obtain ⟨S, x1, x2, x3, v1, v2, v3, y, rfl, ad, z1, z2, z3, hy, q⟩ := h
  exact body_runU (ks0 := [Kd.vis r1 x1, Kd.vis r2 x2, Kd.vis r3 x3]) rfl hN (slotC z1 (slotC z2 (slot1 z3))) (ownC (ownC (ownC ownN))) ad (hb x1 x2 x3) (by rw [← hf]; exact hy) q
theorem len1 {f : α → Option ρ} (h : sp1 r1 rr f K us H Q E) : us.length = 1 := by obtain ⟨_, _, _, _, rfl, _⟩ := h; rfl
theorem len2 {f : α → β → Option ρ} (h : sp2 r1 r2 rr f K us H Q E) : us.length = 2 := by obtain ⟨_, _, _, _, _, _, rfl, _⟩ := h; rfl
theorem len3 {f : α → β → γ → Option ρ} (h : sp3 r1 r2 r3 rr f K us H Q E) : us.length = 3 := by obtain ⟨_, _, _, _, _, _, _, _, rfl, _⟩ := h; rfl
theorem len4 {f : α → β → γ → δ → Option ρ} (h : sp4 r1 r2 r3 r4 rr f K us H Q E) : us.length = 4 := by obtain ⟨_, _, _, _, _, _, _, _, _, _, rfl, _⟩ := h; rfl
end
end L2

namespace L2
open PySem PySem.Spec PyProof.Rows
section
variable {K : PySem.W.Frag} {ks : List Kd} {α β γ δ ρ τ τ' : Type} {rr : Rr ρ}
theorem sj_never {ks' : τ → List Kd} : SJ K ks tNever (none : Option (Fl ρ τ)) ks' rr := fun o ho => by cases ho
variable {r1 : Rp α} {r2 : Rp β} {r3 : Rp γ} {r4 : Rp δ} {us : List V} {H : Hp} {Q : VK} {E : XK}
theorem no_2 {f : α → β → Option ρ} (hf : ∀ a b, f a b = none) : ¬ sp2 r1 r2 rr f K us H Q E := by rintro ⟨S, x1, x2, v1, v2, y, rfl, ad, z1, z2, hy, q⟩; rw [hf] at hy; cases hy
theorem no_3 {f : α → β → γ → Option ρ} (hf : ∀ a b c, f a b c = none) : ¬ sp3 r1 r2 r3 rr f K us H Q E := by rintro ⟨S, x1, x2, x3, v1, v2, v3, y, rfl, ad, z1, z2, z3, hy, q⟩; rw [hf] at hy; cases hy
theorem no_4 {f : α → β → γ → δ → Option ρ} (hf : ∀ a b c d, f a b c d = none) : ¬ sp4 r1 r2 r3 r4 rr f K us H Q E := by rintro ⟨S, x1, x2, x3, x4, v1, v2, v3, v4, y, rfl, ad, z1, z2, z3, z4, hy, q⟩; rw [hf] at hy; cases hy
end
end L2

namespace L2
open PySem
/-! ### the mirrors' own algebra -/
section
variable {α β γ ρ τ τ' : Type}
@[simp] theorem sq_nx (s : τ) (k : τ → Option (Fl ρ τ')) : Fl.sq (some (.nx s)) k = k s := rfl
@[simp] theorem sq_rt (r : ρ) (k : τ → Option (Fl ρ τ')) : Fl.sq (some (.rt r)) k = some (.rt r) := rfl
@[simp] theorem sq_none (k : τ → Option (Fl ρ τ')) : Fl.sq none k = none := rfl
@[simp] theorem mp_nx (g : τ → τ') (s : τ) : Fl.mp g (some (.nx s) : Option (Fl ρ τ)) = some (.nx (g s)) := rfl
@[simp] theorem mp_rt (g : τ → τ') (r : ρ) : Fl.mp g (some (.rt r) : Option (Fl ρ τ)) = some (.rt r) := rfl
@[simp] theorem mp_none (g : τ → τ') : Fl.mp g (none : Option (Fl ρ τ)) = none := rfl
@[simp] theorem nxs_some (s : τ) : (Fl.nxs (some s) : Option (Fl ρ τ)) = some (.nx s) := rfl
@[simp] theorem nxs_none : (Fl.nxs none : Option (Fl ρ τ)) = none := rfl
@[simp] theorem rts_some (r : ρ) : (Fl.rts (some r) : Option (Fl ρ τ)) = some (.rt r) := rfl
@[simp] theorem rts_none : (Fl.rts none : Option (Fl ρ τ)) = none := rfl
@[simp] theorem fin_rt (r : ρ) : fin (some (.rt r) : Option (Fl ρ τ)) = some r := rfl
@[simp] theorem fin_nx (s : τ) : fin (some (.nx s) : Option (Fl ρ τ)) = none := rfl
@[simp] theorem finU_rt (r : Unit) : finU (some (.rt r) : Option (Fl Unit τ)) = some () := rfl
@[simp] theorem finU_nx (s : τ) : finU (some (.nx s) : Option (Fl Unit τ)) = some () := rfl
@[simp] theorem forM_nil (body : α → τ → Option (Fl ρ τ)) (s : τ) : forM body [] s = some (.nx s) := rfl
theorem forM_cons (body : α → τ → Option (Fl ρ τ)) (x : α) (xs : List α) (s : τ) : forM body (x :: xs) s = Fl.sq (body x s) fun s' => forM body xs s' := rfl
theorem forM_inv {body : α → τ → Option (Fl ρ τ)} : ∀ (l : List α) (I : Nat → τ → Prop) (s0 : τ), I 0 s0 → (∀ i x s, l[i]? = some x → I i s → ∃ s', body x s = some (.nx s') ∧ I (i + 1) s') → ∃ s', forM body l s0 = some (.nx s') ∧ I l.length s'
  | [], I, s0, h0, _ => ⟨s0, rfl, h0⟩
  | x :: xs, I, s0, h0, h => by
    obtain ⟨s1, h1, i1⟩ := h 0 x s0 rfl h0
    obtain ⟨s2, h2, i2⟩ := forM_inv xs (fun i s => I (i + 1) s) s1 i1 fun i y s hy hi => h (i + 1) y s (by simpa using hy) hi
    exact ⟨s2, by rw [forM_cons, h1, sq_nx]; exact h2, i2⟩
theorem compM_eq {c : α → Option Bool} {e : α → Option β} {c' : α → Bool} {e' : α → β} : ∀ (l : List α), (∀ x ∈ l, c x = some (c' x) ∧ (c' x = true → e x = some (e' x))) → compM c e l = some ((l.filter c').map e')
  | [], _ => rfl
  | x :: xs, h => by
    have ih := compM_eq xs fun y hy => h y (List.mem_cons_of_mem _ hy)
    obtain ⟨h1, h2⟩ := h x List.mem_cons_self
    unfold compM
    rw [h1, Option.bind_some]
    by_cases hc : c' x = true
    · rw [if_pos hc, h2 hc, Option.bind_some, ih, Option.bind_some, List.filter_cons_of_pos hc, List.map_cons]
    · rw [if_neg hc, ih, List.filter_cons_of_neg hc]
theorem compL_eq {c : α → Option Bool} {e : α → Option β} (c' : α → Bool) (e' : α → β) (l : List α) (hl : l.length ≤ 1000) (h : ∀ x ∈ l, c x = some (c' x) ∧ (c' x = true → e x = some (e' x))) : compL c e l = some ((l.filter c').map e') := by
  unfold compL; rw [chk_pos hl]; exact compM_eq l h
theorem compL_map {e : α → Option β} (e' : α → β) (l : List α) (hl : l.length ≤ 1000) (h : ∀ x ∈ l, e x = some (e' x)) : compL (fun _ => some true) e l = some (l.map e') := by
  rw [compL_eq (fun _ => true) e' l hl fun x hx => ⟨rfl, fun _ => h x hx⟩]
  congr 1
  rw [List.filter_eq_self.mpr fun _ _ => rfl]
theorem mem_rangeI {lo : Int} {n : Nat} {x : Int} : x ∈ rangeI lo n ↔ lo ≤ x ∧ x < lo + n := by
  unfold rangeI
  rw [List.mem_map]
  constructor
  · rintro ⟨i, hi, rfl⟩
    have := List.mem_range.mp hi
    omega
  · intro h
    exact ⟨(x - lo).toNat, List.mem_range.mpr (by omega), by omega⟩
theorem rangeI_get {lo : Int} {n i : Nat} {x : Int} (h : (rangeI lo n)[i]? = some x) : x = lo + i ∧ i < n := by
  unfold rangeI at h
  rw [List.getElem?_map] at h
  obtain ⟨j, hj, rfl⟩ := Option.map_eq_some_iff.mp h
  obtain ⟨h1, h2⟩ := List.getElem?_eq_some_iff.mp hj
  rw [List.length_range] at h1
  rw [List.getElem_range] at h2
  subst h2
  exact ⟨rfl, h1⟩
@[simp] theorem rangeI_zero (lo : Int) : rangeI lo 0 = [] := rfl
theorem rngOk_of {j : Int} (h1 : -1000000 ≤ j) (h2 : j ≤ 1000000) : rngOk j := by unfold rngOk; exact ⟨by omega, by omega⟩
theorem range1_of {j : Int} (h1 : -1000000 ≤ j) (h2 : j ≤ 1000000) : range1 j = some (rangeI 0 j.toNat) := by unfold range1; rw [chk_pos (rngOk_of h1 h2)]
theorem range2_of {i j : Int} (h1 : -1000000 ≤ i) (h2 : i ≤ 1000000) (h3 : -1000000 ≤ j) (h4 : j ≤ 1000000) : range2 i j = some (rangeI i (j - i).toNat) := by unfold range2; rw [chk_pos ⟨rngOk_of h1 h2, rngOk_of h3 h4⟩]
theorem modM_of {i j : Int} (h : 0 < j) : modM i j = some (i % j) := by unfold modM; rw [chk_pos h]
theorem divM_of {i j : Int} (h : 0 < j) (h2 : j.natAbs.log2 < 9000) : divM i j = some (i / j) := by unfold divM; rw [chk_pos ⟨h, h2⟩]
theorem mulM_r {i j : Int} (h1 : -(2 ^ 64) < j) (h2 : j < 2 ^ 64) : mulM i j = some (i * j) := by unfold mulM; rw [chk_pos (.inr ⟨h1, h2⟩)]
theorem catM_of {l m : List α} (h : l.length + m.length ≤ 1000) : catM l m = some (l ++ m) := by unfold catM; rw [chk_pos h]
theorem pushM_of {l : List α} {x : α} (h : l.length < 1000) : pushM l x = some (l ++ [x]) := by unfold pushM; rw [chk_pos h]
theorem atI_of {l : List α} {i : Int} (d : α) (h0 : 0 ≤ i) (h1 : i < l.length) : atI l i = some (l.getD i.toNat d) := by
  have hk : i.toNat < l.length := by omega
  have e : i = ((i.toNat : Nat) : Int) := by omega
  have z : l[i.toNat]? = some (l.getD i.toNat d) := by
    rw [List.getD_eq_getElem?_getD, List.getElem?_eq_getElem hk]; rfl
  have w := atI_nat z
  rw [← e] at w; exact w
theorem cutA_take {l : List α} {k : Int} (h0 : 0 ≤ k) (h1 : k ≤ l.length) : cutA l none (some k) = l.take k.toNat := by
  unfold cutA; rw [sIx_none, sIx_some h0 h1]; simp
theorem cutA_drop {l : List α} {k : Int} (h0 : 0 ≤ k) (h1 : k ≤ l.length) : cutA l (some k) none = l.drop k.toNat := by
  unfold cutA; rw [sIx_none, sIx_some h0 h1]
  apply List.take_of_length_le; simp
theorem cutA_len {l : List α} {a b : Option Int} : (cutA l a b).length ≤ l.length :=
  Nat.le_trans (List.length_take_le' _ _) (by rw [List.length_drop]; exact Nat.sub_le _ _)
end
end L2

namespace L2
open PySem PySem.Spec PyProof.Rows
section
variable {X : Cx} {pins : List (Addr × Obj)} {σ : List (Option V)} {H H' : Hp} {s : Shared} {h' : Heap}
/-- some objects of an iterator's own have turned -/
theorem Inv.turnedL {t' : Nat} {ch : List Addr} (I : Inv X pins σ H s) (k : ∀ b o, b ∉ ch → s.heap.get? b = some o → h'.get? b = some o) (hf : ∀ b ∈ ch, FpOk X pins H b) : Inv X pins σ H { s with heap := h', toks := t' } := by
  have nit : ∀ b u, H b = some u → b ∉ ch := fun b u e z => by rw [(hf b z).1] at e; cases e
  refine I.step (g' := s.gens) (d' := s.drawn) (ch := ch) (fun b hb => ?_) (fun b o _ _ hc e _ => k b o hc e) (fun b o _ _ hc e _ => ⟨o.slots, k b o hc e⟩) (fun _ _ _ _ n => n)
    (fun b o hc e => ⟨o, k b o hc e⟩) (fun _ _ e => e) (fun _ _ _ e => e) (fun b ps e => ⟨#[], by rw [e]; simp⟩) (fun m hm => ?_) (fun b u e => ?_) I.bare
  · obtain ⟨f0, f1, f2, f3, f4, f5⟩ := hf b hb
    exact ⟨f3, f1, f4, f5⟩
  · obtain ⟨o, es, ep, ho, r⟩ := hm
    exact ⟨o, es, ep, k _ o (fun z => (hf _ z).2.1 rfl) ho, r⟩
  · refine (I.hok b u e).stay (fun c v hc q => k c v ?_ q) (fun _ q => q) fun _ _ q => q
    rcases hc with z | z
    · rw [z]; exact nit b u e
    · exact nit c _ z
end
section
variable {X : Cx}
end
end L2

namespace L2
open PySem PySem.Spec PyProof.Rows
section
variable {X : Cx}
end
section
variable {K : PySem.W.Frag} {ks : List Kd} {α β γ δ ρ τ τ' : Type} {rr : Rr ρ}
theorem paired_rev {F : V → α → Prop} : ∀ {xs : List V} {l : List α}, Paired F xs l → Paired F xs.reverse l.reverse
  | _, _, .nil => .nil
  | _, _, .cons h t => by rw [List.reverse_cons, List.reverse_cons]; exact Paired.snoc (paired_rev t) h
end
end L2

namespace L2
open PySem PySem.Spec PyProof.Rows
section
variable {X : Cx}
/-- y = [elt for target in iter if ..], y a plain local name: stored from within -/
theorem ps_setComp {iy : Nat} {y : Str} {py spos : Pos} {own : List Str} {fr : List (Str × Nat)} {wi : TI} {g : TG} {tc : TT} {te : TE} {elt target iter : Expr} {ifs : List Expr} {scope : Scope} {pos : Pos} (hN : X.N.Nodup) (hiy : X.N[iy]? = some y) (hx : Loc X.env.scope y) (hc : X.calm = true) (hi : PI X target iter wi)
    (hg : ∀ s3 H3 fp, PG (cxC X (own ++ fr.map (·.1)) scope s3 H3 fp) target g) (hif : ∀ s3 H3 fp, PIf (cxC X (own ++ fr.map (·.1)) scope s3 H3 fp) ifs tc) (he : ∀ s3 H3 fp, PE (cxC X (own ++ fr.map (·.1)) scope s3 H3 fp) elt te)
    (hs : scOk X scope = true := by rfl) (hf : frOk X scope fr = true := by rfl) (hfs : ∀ x, foldedSetIterable iter X.env x = pure x := by intro _; rfl)
    (hsw : swapsWith (.ListComp elt [⟨target, iter, ifs, 0⟩] scope pos) (some (.Name y py)) spos.line X.env = pure true := by rfl) (hff : X.fn y = true ∨ X.env.scope.names.lookup y = some .local := by first | exact .inl rfl | exact .inr rfl | assumption) :
    PS X (.Assign [.Name y py] (.ListComp elt [⟨target, iter, ifs, 0⟩] scope pos) spos) (tAsg (tComp own fr wi g tc te) (gName iy)) := by
  intro pins s σ H D0 I h
  rw [exec_Assign_Name_used _ _ _ _ hsw]
  refine wpAny_bind (wpAny_standAt (wpAny_bind ?_))
  show wpAny _ X.A (do let _ ← comprehension (.ListComp elt [⟨target, iter, ifs, 0⟩] scope pos) scope X.env _ (newList []) false (eval iter X.env) (some (assign (.Name y py) X.env))) _ _ s
  refine wpAny_bind (wpAny_mono (wpAny_comprehension_free (use := some (assign (.Name y py) X.env)) (Q := fun _ s' => SP X pins D0 .next s') rfl hfs (closureFor_eq (scFree hs I)) (scKind hs) (scLocal hs) ?_) (fun _ s' hq => wpAny_pure (wpAny_pure hq)) fun _ _ e => e)
  refine thn (hi pins s σ H _ I h) fun v s1 h1 => thn h1 fun itv s2 h2 => ?_
  obtain ⟨it, fp, tn, J, H2, e, I2, T, st2, f2, q⟩ := h2
  subst e
  obtain ⟨W, ⟨m0, w0⟩, turn⟩ := q s2.heap.objs.size (I2.hok.fresh (Nat.le_refl _))
  have I3 : Inv X pins σ (upd H2 s2.heap.objs.size (.lst [])) { s2 with heap := s2.heap.push { cls := .type "list", dict := none, data := .seq ([] : List Value).toArray } } := I2.lnew (t' := s2.toks) (ys := []) .nil (Nat.zero_le _)
  have ob2 := T.obj _ _ st2
  have fne : ∀ b ∈ fp, b ≠ s2.heap.objs.size := fun b hb => by
    obtain ⟨o, ho, _⟩ := ob2 b hb
    exact Nat.ne_of_lt (Heap.lt_size ho)
  have f3 : ∀ b ∈ fp, FpOk X pins (upd H2 s2.heap.objs.size (.lst [])) b := fun b hb => ⟨by rw [upd_ne (fne b hb)]; exact (f2 b hb).1, (f2 b hb).2⟩
  refine wpAny_newObj_type (wpAny_newFunctionEnv (scCell hs) (by intro y hy; simp at hy) (fun h₁ hns₁ hsb₁ => ?_) (scKind hs))
  dsimp only at hns₁ hsb₁ ⊢
  generalize hs3 : ({ s2 with heap := s2.heap.push { cls := .type "list", dict := none, data := .seq ([] : List Value).toArray } } : Shared) = s3 at I3
  have hs3h : s3.heap = s2.heap.push { cls := .type "list", dict := none, data := .seq ([] : List Value).toArray } := by rw [← hs3]
  generalize hH3 : upd H2 s2.heap.objs.size (.lst []) = H3 at I3 f3 w0
  have k1 : ∀ b o, s3.heap.get? b = some o → h₁.get? b = some o := fun b o e => by
    rw [← hs3h] at hsb₁
    exact sameBut_kept (Nat.le_refl _) (fun b o e => Heap.get?_push_of_some _ e) hsb₁ b o e
  have ob3 : ∀ b ∈ fp, ∃ o, s3.heap.get? b = some o ∧ ∀ v, o.data ≠ .cell v := fun b hb => by
    obtain ⟨o, ho, d⟩ := ob2 b hb
    exact ⟨o, by rw [hs3h]; exact Heap.get?_push_of_some _ ho, d⟩
  have hns : h₁.Ns s3.heap.objs.size (fun x => ([] : List (Str × Value)).reverse.lookup x) := by rw [hs3h]; exact hns₁
  have I4 : Inv (cxC X (own ++ fr.map (·.1)) scope s3 H3 fp) [] (st0 own fr σ) H3 { s3 with heap := h₁, toks := s2.toks + 0 } := inv_comp hs hf I3 f3 ob3 hns k1
  have st4 : tn 0 h₁ := T.keep _ _ _ st2 fun b hb o e => k1 b o (by rw [hs3h]; exact Heap.get?_push_of_some _ e)
  have f4 : ∀ b ∈ fp, FpOk (cxC X (own ++ fr.map (·.1)) scope s3 H3 fp) [] H3 b := fun b hb => by
    obtain ⟨z1, z2, z3, z4, z5, z6⟩ := f3 b hb
    refine ⟨z1, (I4.ok.exf b hb).1, I4.ok.exfs b hb, .inl hb, (I4.ok.exf b hb).2, fun p hp => absurd (show p ∈ ([] : List (Addr × Obj)) from hp) (by simp)⟩
  have loop : codeAny (model X.prog X.w) X.A (.compLoop (.ListComp elt [⟨target, iter, ifs, 0⟩] scope pos) 0 (.ref it) (.ref s2.heap.objs.size) (cxC X (own ++ fr.map (·.1)) scope s3 H3 fp).env)
      (compPost (model X.prog X.w) X.A X.xe (some (assign (.Name y py) X.env)) (fun _ s' => SP X pins D0 .next s') (.ref s2.heap.objs.size) s3.heap.objs.size) { s3 with heap := h₁, toks := s2.toks + 0 } := by
    refine comp_loop (σ := σ) hc T (hg s3 H3 fp) (hif s3 H3 fp) (he s3 H3 fp) W m0 w0 (fun i m ys H6 w6 => ?_) I4 st4 f4
    obtain ⟨hD, t6⟩ := turn i m ys H6 w6
    refine ⟨hD, t6.imp (fun ⟨stop, qn⟩ => ⟨stop, fun s' I' => ?_⟩) fun z => z⟩
    obtain ⟨m', hn', _⟩ := I'.loc
    have hfreeC : H6 s3.heap.objs.size = none := I'.free
    have u : Un (frs X.stack) fp H3 H6 s3.heap s'.heap := I'.base
    have IX : Inv X pins σ H6 s' := I3.call' (s' := s') (ch := fp) I'.os u I'.hok I'.bare fun b hb => by
      obtain ⟨z1, z2, z3, z4, z5, z6⟩ := f3 b hb
      exact ⟨z4, z2, z5, z6⟩
    show wpAny _ X.A (assign (.Name y py) X.env (.ref s2.heap.objs.size)) _ X.xe s'
    refine wpAny_assign_Name (store_ok2 IX hN hiy hx (v := .ref s2.heap.objs.size) rfl (fun s'' I'' sb0 => ?_) hff)
    obtain ⟨a0, sb0, ha0⟩ := sb0
    have hne : s3.heap.objs.size ≠ a0 := by
      rcases ha0 with z | z
      · rw [z]; exact Nat.ne_of_gt I3.lt
      · intro e
        obtain ⟨v, q⟩ := I3.cell y a0 z
        rw [← e] at q
        exact absurd q.lt (Nat.lt_irrefl _)
    refine ⟨m', hn'.sameBut sb0 hne, fun h'' sb => ?_⟩
    have fpC : FpOk X pins H6 s3.heap.objs.size := I3.fpOk (Nat.le_refl _) hfreeC
    refine ⟨σ.set iy (some (.ref s2.heap.objs.size)), H6, ?_, qn⟩
    exact Inv.turnedL (t' := s''.toks) (ch := [s3.heap.objs.size]) I'' (fun b o hb e => (sb.2 b (by simpa using hb)).trans e) fun b hb => by
      rw [List.mem_singleton.mp hb]; exact fpC
  have fin : ∀ s4 : Shared, s4 = { s3 with heap := h₁, toks := s2.toks + 0 } → codeAny (model X.prog X.w) X.A (.compStart (.ListComp elt [⟨target, iter, ifs, 0⟩] scope pos) 0 (.ref it) (.ref s2.heap.objs.size) (cxC X (own ++ fr.map (·.1)) scope s3 H3 fp).env)
      (compPost (model X.prog X.w) X.A X.xe (some (assign (.Name y py) X.env)) (fun _ s' => SP X pins D0 .next s') (.ref s2.heap.objs.size) s3.heap.objs.size) s4 := by
    rintro s4 rfl
    exact codeAny_compStart_list loop (T.self _ 0 _ _ _ st4 loop)
  have z := fin { s2 with heap := h₁, toks := s2.toks + 0 } (by rw [← hs3])
  rw [hs3h] at z
  have ec : (cxC X (own ++ fr.map (·.1)) scope s3 H3 fp).env = compEnvC scope (clOf X.env scope.names []) (s2.heap.push { cls := .type "list", dict := none, data := .seq ([] : List Value).toArray }).objs.size X.env := by
    rw [← hs3h]; rfl
  rw [ec] at z
  exact z
end
end L2

/-! A set's table: an open addressed one without dummies, of 8 or 32 slots. Own work: what is put into it is found again. -/
namespace L2
open PySem
structure Rise (xs : Array Nat) : Prop where
  lt : ∀ (a b x y : Nat), a < b → xs[a]? = some x → xs[b]? = some y → x < y
theorem Rise.inj {xs : Array Nat} (h : Rise xs) {a b x : Nat} (ha : xs[a]? = some x) (hb : xs[b]? = some x) : a = b := by
  rcases Nat.lt_trichotomy a b with c | c | c
  · exact absurd (h.lt a b x x c ha hb) (Nat.lt_irrefl _)
  · exact c
  · exact absurd (h.lt b a x x c hb ha) (Nat.lt_irrefl _)
end L2

namespace L2
open PySem
end L2

set_option maxHeartbeats 1000000
/-! A set of pairs of ints: search, add. Own work. -/
namespace L2
open PySem
section
variable {G : Addr → Prop} {prog : Program} {w : World} {A : Around} {E : Value → Shared → Prop} {s : Shared}
end
end L2

set_option maxHeartbeats 1000000
namespace L2
open PySem
section
variable {G : Addr → Prop} {prog : Program} {w : World} {A : Around} {E : Value → Shared → Prop} {s : Shared}
end
end L2

set_option maxHeartbeats 3200000
namespace L2
open PySem PyProof.Rows
section
variable {G : Addr → Prop} {prog : Program} {w : World} {A : Around} {R : Result → Shared → Prop}
end
section
variable {G : Addr → Prop} {prog : Program} {w : World} {A : Around} {E : Value → Shared → Prop} {s : Shared}
end
end L2

set_option maxHeartbeats 3200000
namespace L2
open PySem PyProof.Rows
section
variable {G : Addr → Prop} {prog : Program} {w : World} {A : Around} {E : Value → Shared → Prop} {s : Shared}
end
end L2

set_option maxHeartbeats 3200000
namespace L2
open PySem PyProof.Rows
section
variable {prog : Program} {w : World} {A : Around} {E : Value → Shared → Prop} {s : Shared}
end
end L2

set_option maxHeartbeats 3200000
namespace L2
open PySem PyProof.Rows
section
variable {G : Addr → Prop} {prog : Program} {w : World} {A : Around} {E : Value → Shared → Prop} {s : Shared}
end
end L2

set_option maxHeartbeats 3200000
namespace L2
open PySem PyProof.Rows
section
variable {X : Cx} {pins : List (Addr × Obj)} {σ : St} {H : Hp} {s : Shared}
end
section
variable {X : Cx}
end
section
variable {K : PySem.W.Frag} {ks : List Kd}
end
end L2

set_option maxHeartbeats 1000000
namespace L2
open PySem PySem.Spec PyProof.Rows
section
variable {M : Model} {A : Around} {E : Value → Shared → Prop} {s : Shared}
end
end L2

set_option maxHeartbeats 1000000
namespace L2
open PySem PySem.Spec PyProof.Rows
section
variable {X : Cx} {scope : Scope} {z : Str}
end
section
variable {X : Cx}
end
end L2

set_option maxHeartbeats 1000000
namespace L2
open PySem PySem.Spec PyProof.Rows
/-! ### xs[::-1] -/
theorem pick_rev (its : List Value) : slicePick its.toArray none none (some (-1)) = its.reverse.toArray := by
  unfold slicePick
  congr 1
  simp only [sliceBounds, List.size_toArray]
  apply List.ext_getElem?
  intro i
  have hr : ∀ a b c : Int, a = (its.length : Int) - 1 → b = -1 → c = -1 → sliceRange a b c = (List.range its.length).map fun k => its.length - 1 - k := by
    rintro a b c rfl rfl rfl
    unfold sliceRange
    rw [if_neg (by decide)]
    have hc : (if (its.length : Int) - 1 > -1 then ((its.length : Int) - 1 - -1 - -1 - 1) / (- -1) else 0).toNat = its.length := by
      split
      · rw [show (- -1 : Int) = 1 by decide, Int.ediv_one]; omega
      · omega
    dsimp only
    rw [hc]
    apply List.map_congr_left
    intro k hk
    have := List.mem_range.mp hk
    omega
  rw [hr _ _ _ (by simp) (by simp) (by simp)]
  have hfm : ∀ n : Nat, n ≤ its.length → ((List.range n).map fun k => its.length - 1 - k).filterMap (fun x => its.toArray[x]?) = (its.reverse).take n := by
    intro n
    induction n with
    | zero => intro _; rfl
    | succ n ih =>
      intro hn
      rw [List.range_succ, List.map_append, List.filterMap_append, ih (by omega), List.take_succ]
      congr 1
      have e1 : its.toArray[its.length - 1 - n]? = some its[its.length - 1 - n] := by rw [List.getElem?_toArray, List.getElem?_eq_getElem]
      have e2 : its.reverse[n]? = some its[its.length - 1 - n] := by rw [List.getElem?_reverse (by omega), List.getElem?_eq_getElem]
      simp only [List.map_cons, List.map_nil, List.filterMap_cons, List.filterMap_nil, e1, e2]
      rfl
  rw [hfm its.length (Nat.le_refl _), List.take_of_length_le (by simp)]
section
variable {X : Cx}
noncomputable def tRevS (K : PySem.W.Frag) (te ts : TE) : TE := fun σ H Q => te σ H fun x H1 => ts σ H1 fun y H2 => y = .int (-1) ∧ ∃ a xs, x = .ref a ∧ SqL K H2 a xs ∧ ∀ p, H2 p = none → Q (.ref p) (upd H2 p (.lst xs.reverse))
theorem vals_rev : ∀ {xs : List V} {its : List Value}, Vals xs its → Vals xs.reverse its.reverse
  | _, _, .nil => .nil
  | _, _, .cons h t => by rw [List.reverse_cons, List.reverse_cons]; exact (vals_rev t).append (.cons h .nil)
theorem pe_revS {e st : Expr} {te ts : TE} {p2 pos : Pos} (he : PE X e te) (hs : PE X st ts) : PE X (.Subscript e (.Slice none none (some st) p2) pos) (tRevS X.K te ts) := by
  intro pins s σ H Q I h
  refine Subscript_ (thn (he pins s σ H _ I h) fun v s1 ⟨x, H1, I1, r1, q1⟩ => ?_)
  refine wpAny_Slice ?_
  rw [evalPart_none, evalPart_some]
  refine wpAny_pure (wpAny_pure (thn (hs pins s1 σ H1 _ I1 q1) fun vs s3 ⟨y, H3, I3, r3, q3⟩ => ?_))
  obtain ⟨ey, a, xs, ex, hq, q⟩ := q3
  subst ey; subst ex
  obtain ⟨t, rfl⟩ := r3
  cases r1
  have I4 : Inv X pins σ H3 { s3 with heap := s3.heap.push { cls := .type "slice", data := .fields #[.none, .none, .int (-1) t] } } := I3.kept (t' := s3.toks) fun b ob q => Heap.get?_push_of_some _ q
  obtain ⟨its, r, ht, hz⟩ := I4.list hq
  have hlen := r.length
  show wpAny (model X.prog X.w) X.A (subscriptTail e (.Slice none none (some st) p2) (.ref a) (.ref s3.heap.objs.size)) (EP X pins σ Q) X.xe { s3 with heap := s3.heap.push { cls := .type "slice", data := .fields #[.none, .none, .int (-1) t] } }
  refine tail_any (ops := [.ref a, .ref s3.heap.objs.size]) ht.isList.typeIs slot_list_getitem.lookup ?_ (by with_unfolding_all rfl)
  refine wpAny_getItem_list_slice ht.isList (Heap.IsSliceOf.new ..) .none .none (.int (-1) t) (by simp) ?_ (by rw [List.size_toArray] <;> omega)
  rw [pick_rev]
  refine ⟨.ref _, _, I4.laid (t' := s3.toks) (o := .lst xs.reverse) (fun b ob q => Heap.get?_push_of_some _ q) (Nat.le_refl _) ?_, rfl, q _ (I4.hok.fresh (Nat.le_refl _))⟩
  exact ⟨by rw [List.length_reverse]; exact hz, _, 0, vals_rev r, Heap.get?_push_size _ rfl⟩
end
section
variable {K : PySem.W.Frag} {ks : List Kd} {α : Type}
noncomputable def revM (l : List α) (i : Int) : Option (List α) := if i = -1 then some l.reverse else none
theorem revM_of (l : List α) : revM l (-1) = some l.reverse := by unfold revM; rw [if_pos rfl]
theorem en_revS {r : Rp α} [h1 : StaC r] {ta ts : TE} {m : Option (List α)} {n : Option Int} (ha : Ev K ks ta (lo r) m) (hs : Ev K ks ts (vs rInt) n) : EvN K ks (tRevS K ta ts) r (B2 revM m n) := fun z hz S σ H ad en Q k => by
  obtain ⟨x, hx, hz⟩ := bind_some hz
  obtain ⟨i, hi, hz⟩ := bind_some hz
  unfold revM at hz
  split at hz
  · next e =>
    subst e
    cases hz
    refine ha x hx S σ H ad en _ fun v H1 e1 ⟨a, xs, ea, s1, p1⟩ => hs _ hi S σ H1 (ad.same e1) (en.same e1) _ fun w H2 e2 z2 => ?_
    subst ea
    refine ⟨z2, a, xs, rfl, e2.seq s1, fun p hp => ?_⟩
    refine k p _ _ ((e1.trans e2).free hp) (e1.trans (e2.trans (Same.new hp _))) upd_same ?_
    rw [hide_new hp]
    exact paired_rev (p1.sta e2.hide)
  · cases hz
end
end L2

set_option maxHeartbeats 1000000
namespace L2
open PySem PySem.Spec PyProof.Rows
/-! ### a list of two unlike items -/
noncomputable def rM {α β : Type} (r : Rp α) (q : Rp β) : Rp (α × β) := fun K H v p => ∃ a x y, v = .ref a ∧ H a = some (.lst [x, y]) ∧ r K H x p.1 ∧ q K H y p.2
noncomputable instance {α β : Type} (r : Rp α) (q : Rp β) [h1 : StaC r] [h2 : StaC q] : StaC (rM r q) := ⟨fun K H H' v l e ⟨a, x, y, ev, h, z1, z2⟩ => ⟨a, x, y, ev, e _ _ h, h1.sta _ _ _ _ _ e z1, h2.sta _ _ _ _ _ e z2⟩⟩
section
variable {X : Cx} {pins : List (Addr × Obj)} {σ : St} {H : Hp} {s : Shared}
end
section
variable {X : Cx}
end
section
variable {K : PySem.W.Frag} {ks : List Kd} {α β : Type}
end
end L2

set_option maxHeartbeats 1000000
namespace L2
open PySem PySem.Spec PyProof.Rows
section
variable {prog : Program} {w : World} {A : Around} {R : Result → Shared → Prop}
end
section
variable {X : Cx}
end
section
variable {K : PySem.W.Frag} {ks : List Kd}
end
end L2

/-! Exceptions of own classes: raised, passing through frames. Own work. -/
namespace L2
open PySem PySem.Spec PyProof.Rows
/-- what of the heap h, as H describes it, is left where an exception flies: B is what stays, h' the heap -/
structure Lies (P : Program) (w : World) (outer : List Env) (H H' : Hp) (h B h' : Heap) : Prop where
  keep : ∀ b o, h.get? b = some o → H b = none → b ∉ frs outer → B.get? b = some o
  there : ∀ b o, h.get? b = some o → b ∉ frs outer → ∃ o', B.get? b = some o'
  slot : ∀ b o, h.get? b = some o → H b = none → b ∈ frs outer → ∃ sl, h'.get? b = some { o with slots := sl }
  free : ∀ b o, h.get? b = some o → H b = none → H' b = none
  tups : ∀ b xs, H b = some (.tup xs) → H' b = some (.tup xs)
  frzs : ∀ b o u, H b = some (.frz o u) → H' b = some (.frz o u)
  tbls : ∀ b ps, H b = some (.tbl ps) → ∃ more, H' b = some (.tbl (ps ++ more))
  hok : HOk P w H' B
/-- an exception lies so behind a call -/
noncomputable def CX1 (P : Program) (w : World) : CXT := fun outer H s E e s' => ∃ (a : Addr) (cls a0 : Value) (B : Heap) (H' : Hp), e = .ref a ∧ s'.os = s.os ∧ AllBare s'.gens ∧ Heap.FlyingW B outer a cls a0 s'.heap ∧ Lies P w outer H H' s.heap B s'.heap ∧ E cls none H'
section
variable {P : Program} {w : World} {outer : List Env} {H H' : Hp} {h B h' : Heap}
theorem Lies.un (L : Lies P w outer H H' h B h') (st : B.StaysIn h') (hf : ∀ b ∈ frs outer, H b = none) : Un (frs outer) [] H H' h h' where
  keep := fun b o q n hb _ => st b o (L.keep b o q n hb)
  slot := fun b o q n hb _ => L.slot b o q n hb
  free := fun b o q n _ => L.free b o q n
  there := fun b o q _ => by
    by_cases hb : b ∈ frs outer
    · obtain ⟨sl, e⟩ := L.slot b o q (hf b hb) hb
      exact ⟨_, e⟩
    · obtain ⟨o', e⟩ := L.there b o q hb
      exact ⟨o', st b o' e⟩
  tups := L.tups
  frzs := L.frzs
  tbls := L.tbls
end
section
variable {P : Program} {w : World} {K : PySem.W.Frag} {mg : Str → Option Value} {base : Heap} {N : List Str} {qual : Str} {scope : Scope} {f : Addr} {cd : Value} {A : Around} {outer : List Env} {s : Shared} {H : Hp} {E : XK}
/-- frames are no records -/
theorem fr_data {X : Cx} {pins : List (Addr × Obj)} {σ : St} {H1 : Hp} {s1 : Shared} (I : Inv X pins σ H1 s1) {b : Addr} {o : Obj} (hb : b ∈ X.fs) (q : X.s₀.heap.get? b = some o) : ∀ vs, o.data ≠ .fields vs := by
  obtain ⟨_, o', ho, hd⟩ := I.ok.funs.mem hb
  rw [q] at ho
  cases ho
  exact hd
theorem frs_cons {env : Env} {outer : List Env} {L b : Addr} (hf : env.frame = some L) (hb : b ≠ L) (ho : b ∉ frs outer) : b ∉ frs (env :: outer) := fun z => by
  obtain ⟨e, he, hfe⟩ := List.mem_filterMap.mp z
  rcases List.mem_cons.mp he with rfl | he
  · rw [hf] at hfe; exact hb (Option.some.inj hfe).symm
  · exact ho (List.mem_filterMap.mpr ⟨e, he, hfe⟩)
theorem frs_in {env : Env} {outer : List Env} {b : Addr} (ho : b ∈ frs outer) : b ∈ frs (env :: outer) := by
  obtain ⟨e, he, hfe⟩ := List.mem_filterMap.mp ho
  exact List.mem_filterMap.mpr ⟨e, .tail _ he, hfe⟩
/-- a callee's exception leaves this frame too -/
theorem pass1 : Passes (CX1 P w) (cxOf (CX1 P w) P w K mg base N qual scope f cd A outer s H E) E := by
  intro pins σ H1 s1 e s' I z
  obtain ⟨a, cls, a0, B, H', rfl, ho, hg, fl, L, hE⟩ := z
  have ab : s.heap.objs.size ≤ (envOfC qual scope s.heap.objs.size f cd).locals := I.ok.above
  have noA : ∀ b : Addr, b ∉ (cxOf (CX1 P w) P w K mg base N qual scope f cd A outer s H E).ex := fun b z => absurd (show b ∈ ([] : List Addr) from z) (by simp)
  refine wpAny_leaves_onW (L := s.heap.objs.size) I.ok.frames rfl fl fun h'' x1 x2 => ?_
  refine ⟨a, cls, a0, B, H', rfl, ho.trans I.os, hg, x1, ⟨fun b o q n hb => ?_, fun b o q hb => ?_, fun b o q n hb => ?_, fun b o q n => ?_, fun b xs q => L.tups _ _ (I.base.tups _ _ q), fun b o u q => L.frzs _ _ _ (I.base.frzs _ _ _ q), fun b ps q => ?_, L.hok⟩, hE⟩
  · exact L.keep b o (I.base.keep b o q n hb (noA b)) (I.base.free b o q n (noA b)) (frs_cons (L := s.heap.objs.size) rfl (Nat.ne_of_lt (Heap.lt_size q)) hb)
  · obtain ⟨o', q'⟩ := I.base.there b o q (noA b)
    exact L.there b o' q' (frs_cons (L := s.heap.objs.size) rfl (Nat.ne_of_lt (Heap.lt_size q)) hb)
  · obtain ⟨sl, q1⟩ := I.base.slot b o q n hb (noA b)
    obtain ⟨sl2, q2⟩ := L.slot b _ q1 (I.base.free b o q n (noA b)) (frs_in hb)
    obtain ⟨sl3, q3⟩ := x2 b _ q2 (show ∀ vs, o.data ≠ .fields vs from fr_data I hb q)
    exact ⟨sl3, q3⟩
  · obtain ⟨o', q'⟩ := I.base.there b o q (noA b)
    exact L.free b o' q' (I.base.free b o q n (noA b))
  · obtain ⟨m1, e1⟩ := I.base.tbls b ps q
    obtain ⟨m2, e2⟩ := L.tbls b _ e1
    exact ⟨m1 ++ m2, by rw [e2, Array.append_assoc]⟩
/-- a new exception leaves the frame in which it was made -/
theorem made1 {pins : List (Addr × Obj)} {σ : St} {H1 : Hp} {s1 : Shared} {h1 : Heap} {e : Addr} {cls : Value} {args : List Value} (I : Inv (cxOf (CX1 P w) P w K mg base N qual scope f cd A outer s H E) pins σ H1 s1)
    (hx : Heap.MadeExcOf s1.heap h1 e cls args) (hE : E cls none H1) : (cxOf (CX1 P w) P w K mg base N qual scope f cd A outer s H E).xe (.ref e) { s1 with heap := h1 } := by
  have noA : ∀ b : Addr, b ∉ (cxOf (CX1 P w) P w K mg base N qual scope f cd A outer s H E).ex := fun b z => absurd (show b ∈ ([] : List Addr) from z) (by simp)
  have hin : ∀ env ∈ (envOfC qual scope s.heap.objs.size f cd :: outer), ∀ b, env.frame = some b → b ∈ frs (envOfC qual scope s.heap.objs.size f cd :: outer) := fun env he b hb => List.mem_filterMap.mpr ⟨env, he, hb⟩
  have stk : s1.heap.FunFrames base (envOfC qual scope s.heap.objs.size f cd :: outer) := I.stack
  have fre : ∀ b ∈ frs (envOfC qual scope s.heap.objs.size f cd :: outer), H1 b = none := I.stkFree
  refine wpAny_leaves_madeW (L := s.heap.objs.size) (base := PySem.W.hideAll s1.heap (frs (envOfC qual scope s.heap.objs.size f cd :: outer))) (h := s1.heap) I.ok.frames rfl (fun b o q => PySem.W.of_hideAll _ q) (PySem.W.funFrames_hide stk hin) hx fun h'' t x1 _ _ x4 => ?_
  refine ⟨e, cls, .ref t, _, H1, rfl, I.os, I.bare, x1, ⟨fun b o q n hb => ?_, fun b o q hb => ?_, fun b o q n hb => ?_, fun b o q n => I.base.free b o q n (noA b), I.base.tups, I.base.frzs, I.base.tbls, fun b o q => ?_⟩, hE⟩
  · exact PySem.W.hideAll_get _ (I.base.keep b o q n hb (noA b)) (frs_cons (L := s.heap.objs.size) rfl (Nat.ne_of_lt (Heap.lt_size q)) hb)
  · obtain ⟨o', q'⟩ := I.base.there b o q (noA b)
    exact ⟨o', PySem.W.hideAll_get _ q' (frs_cons (L := s.heap.objs.size) rfl (Nat.ne_of_lt (Heap.lt_size q)) hb)⟩
  · obtain ⟨sl, q1⟩ := I.base.slot b o q n hb (noA b)
    obtain ⟨sl3, q3⟩ := x4 b _ (hx.keeps b _ q1) (show ∀ vs, o.data ≠ .fields vs from fr_data I hb q)
    exact ⟨sl3, q3⟩
  · refine (I.hok b o q).stay (fun c u hc qc => PySem.W.hideAll_get _ qc fun hm => ?_) (fun _ z => z) fun _ _ z => z
    have z := fre c hm
    rcases hc with rfl | hc
    · rw [q] at z; cases z
    · rw [hc] at z; cases z
end

/-- the own exception classes here: below ValueError, no __init__ of their own -/
abbrev mroV : List Value := [.type "ValueError", .type "Exception", .type "BaseException", .type "object"]
noncomputable abbrev ExcK (K : PySem.W.Frag) (C : Addr) : Prop := PySem.W.excIn K C mroV "ValueError.__new__" = true
/-- the class as it stands, in K and on the heap -/
inductive ExcAt (K : PySem.W.Frag) (h : Heap) (C : Addr) : Prop
  | mk (bm N nm qn bs hdct sn sub ab col dd k0 k1 k2 k3 k5 mN)
    (lies : h.get? C = some (excClassObj nm qn C N bs bm hdct sn sub ab col dd k0 k1 k2 k3 k5 "ValueError.__new__") ∧ K.lookup C = some (excClassObj nm qn C N bs bm hdct sn sub ab col dd k0 k1 k2 k3 k5 "ValueError.__new__")) (ns : h.Ns N mN) (ini : mN "__init__" = none) (tail : OwnTail h mroV bm) : ExcAt K h C
theorem exc_slots {mro : List Value} {l : List (Option Value)} {f : Addr → List Value → Option Value → Option Value → Option Value → Option Value → String → Option Value → Bool}
    (q : @PySem.W.excIn.match_1 (fun _ _ => Bool) mro l f (fun _ _ => false) = true) : ∃ C bm a0 a1 a2 a3 n a5, mro = .ref C :: bm ∧ l = [a0, a1, a2, a3, some (.builtin n), a5] ∧ f C bm a0 a1 a2 a3 n a5 = true := by
  rcases mro with _ | ⟨v, bm⟩
  · exact absurd q Bool.false_ne_true
  cases v
  case ref C =>
    rcases l with _ | ⟨a0, _ | ⟨a1, _ | ⟨a2, _ | ⟨a3, _ | ⟨_ | v, l⟩⟩⟩⟩⟩
    case cons.cons.cons.cons.cons.some =>
      cases v
      case builtin n =>
        rcases l with _ | ⟨a5, _ | _⟩
        case cons.nil => exact ⟨C, bm, a0, a1, a2, a3, n, a5, rfl, rfl, q⟩
        all_goals exact absurd q Bool.false_ne_true
      all_goals exact absurd q Bool.false_ne_true
    all_goals exact absurd q Bool.false_ne_true
  all_goals exact absurd q Bool.false_ne_true
theorem exc_cls {o : Option Obj} {f : Option Addr → ClassData → Array (Option Value) → Bool} (q : @PySem.W.excIn.match_6 (fun _ => Bool) o f (fun _ => false) = true) : ∃ dd cd sl, o = some ⟨.type "type", dd, .cls cd, sl⟩ ∧ f dd cd sl = true := by
  split at q
  · exact ⟨_, _, _, rfl, q⟩
  · cases q
theorem ExcK.obj {K : PySem.W.Frag} {C : Addr} {h : Heap} (X : K.In h) (q : ExcK K C) : ExcAt K h C := by
  obtain ⟨dd, cd, sl, hl, q⟩ := exc_cls q
  obtain ⟨C2, tl, a0, a1, a2, a3, nw, a5, hm, hs, q⟩ := exc_slots q
  have z1 := Bool.and_eq_true_iff.mp q
  have z2 := Bool.and_eq_true_iff.mp z1.1
  have z3 := Bool.and_eq_true_iff.mp z2.1
  have z4 := Bool.and_eq_true_iff.mp z3.1
  have z5 := Bool.and_eq_true_iff.mp z4.1
  have h1 : cd.mro = .ref C :: tl := (eq_of_beq z5.1 : C2 = C) ▸ hm
  have h2 : sl = #[a0, a1, a2, a3, some (.builtin "ValueError.__new__"), a5] := Array.toList_inj.mp ((eq_of_beq z5.2 : nw = "ValueError.__new__") ▸ hs)
  have h3 : cd.hasDel = false := Eq.mp (Bool.not_eq_true' _) z4.2
  have n1 := PySem.W.isNs_of_in X z2.2
  have n2 := PySem.W.nsMap_none_of_in X z2.2 (show PySem.W.nsIn K cd.ns "__init__" = some none by simpa using z1.2)
  have n3 := PySem.W.tail_of_in X z3.2
  clear q z1 z2 z3 z4 z5 hm hs
  obtain ⟨nm, bs, mro, ns, qn, hd, sn, sub, ab, col, del⟩ := cd
  cases (h1 : mro = _)
  cases (h3 : del = _)
  cases h2
  exact ⟨tl, ns, nm, qn, bs, hd, sn, sub, ab, col, dd, a0, a1, a2, a3, a5, _, ⟨X _ _ hl, hl⟩, .of_isNs n1, n2, n3⟩
section
variable {P : Program} {w : World} {K : PySem.W.Frag} {mg : Str → Option Value} {base : Heap} {N : List Str} {qual : Str} {scope : Scope} {f : Addr} {cd : Value} {A : Around} {outer : List Env} {s : Shared} {H : Hp} {E : XK}
/-- raise C('text') -/
noncomputable def tRaise (E : XK) (C : Addr) : TS := fun _ _ H1 => E (.ref C) none H1
theorem ps_raise {x tx : Str} {C : Addr} {j : Nat} {np p1 cpos pos : Pos} (hm : mg x = some (.ref C)) (hc : ExcK K C)
    (hg : Gl (cxOf (CX1 P w) P w K mg base N qual scope f cd A outer s H E) x) (hdb : (x == ("__debug__" : Str)) = false := by decide) :
    PS (cxOf (CX1 P w) P w K mg base N qual scope f cd A outer s H E) (.Raise (some (.Call (.Name x np) [.Constant (.str tx) j p1] [] cpos)) none pos) (tRaise E C) := by
  intro pins s1 σ H1 D I hE
  obtain ⟨tl, N', nm, qn, bs, hdct, sn, sub, ab, col, dd, k0, k1, k2, k3, k5, mN, ⟨hC, hK⟩, hN, hni, T⟩ := ExcK.obj (C := C) (show K.In base from I.ok.mod.kin) hc
  refine wpAny_Raise_call_subT (C := C) (nm := nm) (q := qn) (N := N') (bs := bs) (bm := tl) (hdct := hdct) (sn := sn) (sub := sub) (ab := ab) (col := col) (dd := dd) (k0 := k0) (k1 := k1) (k2 := k2) (k3 := k3) (k5 := k5)
    PySem.F.excBase_ValueError (mN := mN) (T.hasType (by decide)) (I.ok.hd rfl) rfl hni (ld_glob I hg hm ⟨rfl, ?_⟩ hdb)
  refine Calls.evalArgs_plain (thn ((pa_cons pe_str pa_nil : PA _ [.Constant (.str tx) j p1] _) cpos pins s1 σ H1 (fun vs H2 => H2 = H1 ∧ vs = [.str tx]) I ⟨rfl, rfl⟩) fun us s2 z => ?_)
  obtain ⟨vs, H2, I2, r, rfl, rfl⟩ := z
  refine ⟨rfl, ?_, I2.bk _ _ hC, hN.keeps I2.bk, T.keeps I2.bk, fun h' e hx => made1 I2 hx hE⟩
  rw [show us.length = 1 from r.length.symm]
  decide
end
end L2

/-! The typed reading of what raises. Own work. -/
namespace L2
open PySem PySem.Spec PyProof.Rows
section
variable {P : Program} {w : World} {K : PySem.W.Frag} {mg : Str → Option Value} {base : Heap}
theorem Fun.ok1 {CX : CXT} {x qual : Str} {st : Stmt} {f : Addr} {fd : FuncData} {N ps : List Str} {k : Nat} {sp : Sp} (F : Fun K x qual st f fd) (S : FnScope N ps (defScope st)) (len : ∀ vs H Q E, sp vs H Q E → vs.length = ps.length)
    (hbody : ∀ (cdv : Value) (A : Around) (outer : List Env) (s : Shared) (H : Hp) (vs : List V) (Q : VK) (E : XK), Room k (A.deeper (envOfC qual (defScope st) s.heap.objs.size f cdv)) → sp vs H Q E →
      ∃ t, PSs (cxOf CX P w K mg base N qual (defScope st) f cdv A outer s H E) (defBody st) t ∧ t { nx := fun _ H' => Q .non H', rt := Q } (start N vs) H) : FnOk P w K mg base CX (k + 1) f fd ps sp := by
  obtain ⟨oc, od, kV, doc, pm, an, cdv, ct, osl, rfl, lk, hcd⟩ := F.ex
  exact fn_of lk hcd S len fun A outer s H vs Q E hr hsp => hbody cdv A outer s H vs Q E hr hsp
/-- either promise -/
noncomputable def spB (sp sq : Sp) : Sp := fun vs H Q E => sp vs H Q E ∨ sq vs H Q E
/-- a def of the text, as a caller sees it -/
structure Fc (P : Program) (w : World) (K : PySem.W.Frag) (mg : Str → Option Value) (base : Heap) (CX : CXT) (k : Nat) (x : Str) (sp : Sp) : Prop where
  ex : ∃ f : Addr, PySem.W.keepIn K (.ref f) = true ∧ mg x = some (.ref f) ∧ ∀ (A : Around) (outer : List Env) (s : Shared) (H : Hp) (us : List Value) (vs : List V) (Q : VK) (E : XK), Room k A → Env0 P w K mg base A outer s H → K.In s.heap → Vals vs us → sp vs H Q E →
    codeAny (model P w) A (.call (.ref f) ⟨us, []⟩) (CR CX outer P w H s Q E) s
theorem Fn.fc {CX : CXT} {k : Nat} {x : Str} {ps : List Str} {sp : Sp} (F : Fn P w K mg base CX k x ps sp) : Fc P w K mg base CX k x sp := by
  obtain ⟨f, fd, a, b, c, d⟩ := F.ex
  refine ⟨f, c, d, fun A outer s H us vs Q E hr e0 kin r h => ?_⟩
  have hl : (us ++ []).length = ps.length := by rw [List.append_nil, ← r.length]; exact a.len _ _ _ _ h
  have hb := b s us kin hl
  rw [List.append_nil] at hb
  exact a.run A outer s H ⟨us, []⟩ us vs Q E hr e0 hb r h
/-- what never raises -/
theorem Fc.of0 {CX : CXT} {k : Nat} {x : Str} {sp : Sp} (F : Fc P w K mg base CX0 k x sp) : Fc P w K mg base CX k x sp := by
  obtain ⟨f, c, d, h⟩ := F.ex
  refine ⟨f, c, d, fun A outer s H us vs Q E hr e0 kin r z => codeAny_mono (h A outer s H us vs Q E hr e0 kin r z) fun rs s' q => ?_⟩
  cases rs with
  | ok fl => cases fl <;> exact q
  | error e => exact q.elim
theorem Fc.or {CX : CXT} {k j j' : Nat} {x : Str} {sp sq : Sp} (F : Fc P w K mg base CX j x sp) (G : Fc P w K mg base CX j' x sq) (hj : j ≤ k := by decide) (hj' : j' ≤ k := by decide) : Fc P w K mg base CX k x (spB sp sq) := by
  obtain ⟨f, c, d, h⟩ := F.ex
  obtain ⟨f', c', d', h'⟩ := G.ex
  rw [d] at d'
  cases d'
  refine ⟨f, c, d, fun A outer s H us vs Q E hr e0 kin r z => ?_⟩
  rcases z with z | z
  · exact h A outer s H us vs Q E (hr.mono hj) e0 kin r z
  · exact h' A outer s H us vs Q E (hr.mono hj') e0 kin r z
end
/-! ### calls whose exceptions are asked about -/
noncomputable def tCallS (sp : Sp) (E : St → XK) (t : TA) : TE := fun σ H Q => t σ H fun vs H1 => sp vs H1 Q (E σ)
noncomputable def PassesS (CX : CXT) (X : Cx) (E : St → XK) : Prop := ∀ (pins : List (Addr × Obj)) (σ : St) (H : Hp) (s : Shared) (e : Value) (s' : Shared), Inv X pins σ H s → CX X.stack H s (E σ) e s' → X.xe e s'
section
variable {X : Cx} {CX : CXT} {x : Str} {sp : Sp} {E : St → XK} {p pos : Pos} {e : Expr} {es : List Expr} {t : TA} {j k : Nat}
theorem pe_callC (G : Fc X.prog X.w X.K X.mg X.base CX j x sp) (hr : Room k X.A) (hg : Gl X x) (hx : PassesS CX X E) (ha : PA X (e :: es) t) (hj : j ≤ k := by decide)
    (hdb : (x == ("__debug__" : Str)) = false := by decide) (he : starEach (e :: es) X.env = (false, eval e X.env) :: starEach es X.env := by rfl) (hpl : (backTo pos (starEach es X.env)).any (·.1) = false := by rfl) :
    PE X (.Call (.Name x p) (e :: es) [] pos) (tCallS sp E t) := by
  intro pins s σ H Q I h
  obtain ⟨f, c, d, F⟩ := G.ex
  refine wpAny_Call_Name_kw (ld_glob I hg d ?_ hdb)
  refine PySem.W.callWith_K (h₀ := X.base) I.ok.mod.kin c (thn (ha pos pins s σ H _ I h) fun us s1 ⟨vs, H1, I1, r, q⟩ => ⟨I1.kIn, ?_⟩) he hpl
  refine wpAny_call (codeAny_mono (F X.A X.stack s1 H1 us vs Q (E σ) (hr.mono hj) I1.env0 I1.kIn r q) fun rs s' hq => ?_)
  cases rs with
  | error e => exact hx pins σ H1 s1 e s' I1 hq
  | ok fl =>
    cases fl with
    | ret u => exact I1.after hq
    | next => exact hq.elim
    | brk => exact hq.elim
    | cont => exact hq.elim
theorem PS.nox {st : Stmt} {t : TS} (h : PS X.nox st t) : PS X st t := fun pins s σ H D I hw =>
  wpAny_mono (h pins s σ H D (I.wish _) hw) (fun _ _ q => q.unwish) fun _ _ z => False.elim z
end
/-! ### what raises: expressions -/
noncomputable def EvX (K : PySem.W.Frag) (mg : Str → Option Value) (E : St → XK) (ks : List Kd) (t : TE) (m : Option Str) : Prop :=
  ∀ n, m = some n → ∀ (S : List Addr) (σ : St) (H : Hp), AdmL S H → EnvOk K S H ks σ → (∀ c H', mg n = some c → Same H H' → E σ c none H') → ∀ Q : VK, t σ H Q
noncomputable def EaX (K : PySem.W.Frag) (mg : Str → Option Value) (E : St → XK) (ks : List Kd) (t : TA) (m : Option Str) : Prop :=
  ∀ n, m = some n → ∀ (S : List Addr) (σ : St) (H : Hp), AdmL S H → EnvOk K S H ks σ → (∀ c H', mg n = some c → Same H H' → E σ c none H') → ∀ Q : List V → Hp → Prop, t σ H Q
section
variable {K : PySem.W.Frag} {mg : Str → Option Value} {E : St → XK} {ks : List Kd} {α β γ δ ε ρ τ : Type}
theorem eax_head {te : TE} {t : TA} {m : Option Str} (h : EvX K mg E ks te m) : EaX K mg E ks (tCons te t) m := fun n hn S σ H ad en k Q => h n hn S σ H ad en k _
theorem eax_tail {te : TE} {q : Rq α} {a : Option α} {t : TA} {m : Option Str} (ha : Ev K ks te q a) (h : EaX K mg E ks t m) : EaX K mg E ks (tCons te t) (B1 (fun _ => m) a) := fun n hn S σ H ad en k Q => by
  obtain ⟨x, hx, hn⟩ := bind_some hn
  exact ha x hx S σ H ad en _ fun v H1 e1 z1 => h n hn S σ H1 (ad.same e1) (en.same e1) (fun c H' hc e => k c H' hc (e1.trans e)) _
theorem evx_argsS {sp : Sp} {E' : St → XK} {t : TA} {m : Option Str} (h : EaX K mg E ks t m) : EvX K mg E ks (tCallS sp E' t) m := fun n hn S σ H ad en k Q => h n hn S σ H ad en k _
theorem evx_args {sp : Sp} {E' : XK} {t : TA} {m : Option Str} (h : EaX K mg E ks t m) : EvX K mg E ks (tCall sp [] E' t) m := fun n hn S σ H ad en k Q => h n hn S σ H ad en k _
inductive spx2 (r1 : Rp α) (r2 : Rp β) (f : α → β → Option Str) (K : PySem.W.Frag) (mg : Str → Option Value) (us : List V) (H : Hp) (Q : VK) (E : XK) : Prop
  | mk (S x1 x2 v1 v2 n) (c0 : us = [v1, v2]) (c1 : AdmL S H) (c2 : r1 K (hide S H) v1 x1) (c3 : r2 K (hide S H) v2 x2) (c4 : f x1 x2 = some n) (c5 : ∀ c H', mg n = some c → Same H H' → E c none H') : spx2 r1 r2 f K mg us H Q E
theorem evx_2 {r1 : Rp α} {r2 : Rp β} [h1 : StaC r1] {sp : Sp} {f : α → β → Option Str} {t1 : TE} {m1 : Option α} (a1 : Ev K ks t1 (vs r1) m1) {t2 : TE} {m2 : Option β} (a2 : Ev K ks t2 (vs r2) m2) : EvX K mg E ks (tCallS (spB sp (spx2 r1 r2 f K mg)) E (tCons t1 (tCons t2 tNil))) (B2 f m1 m2) := fun n hz S σ H ad en k Q => by
  obtain ⟨y1, e1, hz⟩ := bind_some hz
  obtain ⟨y2, e2, hz⟩ := bind_some hz
  exact a1 y1 e1 S σ H ad en _ fun w1 H1 f1 z1 => a2 y2 e2 S σ H1 (ad.same f1) (en.same f1) _ fun w2 H2 f2 z2 => .inr ⟨S, y1, y2, w1, w2, n, rfl, ad.same (f1.trans f2), h1.sta _ _ _ _ _ f2.hide z1, z2, hz, fun c H' hc e => k c H' hc ((f1.trans f2).trans e)⟩
inductive spx3 (r1 : Rp α) (r2 : Rp β) (r3 : Rp γ) (f : α → β → γ → Option Str) (K : PySem.W.Frag) (mg : Str → Option Value) (us : List V) (H : Hp) (Q : VK) (E : XK) : Prop
  | mk (S x1 x2 x3 v1 v2 v3 n) (c0 : us = [v1, v2, v3]) (c1 : AdmL S H) (c2 : r1 K (hide S H) v1 x1) (c3 : r2 K (hide S H) v2 x2) (c4 : r3 K (hide S H) v3 x3) (c5 : f x1 x2 x3 = some n) (c6 : ∀ c H', mg n = some c → Same H H' → E c none H') : spx3 r1 r2 r3 f K mg us H Q E
theorem evx_3 {r1 : Rp α} {r2 : Rp β} {r3 : Rp γ} [h1 : StaC r1] [h2 : StaC r2] {sp : Sp} {f : α → β → γ → Option Str} {t1 : TE} {m1 : Option α} (a1 : Ev K ks t1 (vs r1) m1) {t2 : TE} {m2 : Option β} (a2 : Ev K ks t2 (vs r2) m2) {t3 : TE} {m3 : Option γ} (a3 : Ev K ks t3 (vs r3) m3) : EvX K mg E ks (tCallS (spB sp (spx3 r1 r2 r3 f K mg)) E (tCons t1 (tCons t2 (tCons t3 tNil)))) (B3 f m1 m2 m3) := fun n hz S σ H ad en k Q => by
  obtain ⟨y1, e1, hz⟩ := bind_some hz
  obtain ⟨y2, e2, hz⟩ := bind_some hz
  obtain ⟨y3, e3, hz⟩ := bind_some hz
  exact a1 y1 e1 S σ H ad en _ fun w1 H1 f1 z1 => a2 y2 e2 S σ H1 (ad.same f1) (en.same f1) _ fun w2 H2 f2 z2 => a3 y3 e3 S σ H2 (ad.same (f1.trans f2)) (en.same (f1.trans f2)) _ fun w3 H3 f3 z3 => .inr ⟨S, y1, y2, y3, w1, w2, w3, n, rfl, ad.same (f1.trans (f2.trans f3)), h1.sta _ _ _ _ _ (f2.trans f3).hide z1, h2.sta _ _ _ _ _ f3.hide z2, z3, hz, fun c H' hc e => k c H' hc ((f1.trans (f2.trans f3)).trans e)⟩
theorem evb_3 {r1 : Rp α} {r2 : Rp β} {r3 : Rp γ} [h1 : StaC r1] [h2 : StaC r2] {rr : Rr ε} {sq : Sp} {f : α → β → γ → Option ε} {t1 : TE} {m1 : Option α} (a1 : Ev K ks t1 (vs r1) m1) {t2 : TE} {m2 : Option β} (a2 : Ev K ks t2 (vs r2) m2) {t3 : TE} {m3 : Option γ} (a3 : Ev K ks t3 (vs r3) m3) : EvR K ks (tCallS (spB (sp3 r1 r2 r3 rr f K) sq) E (tCons t1 (tCons t2 (tCons t3 tNil)))) rr (B3 f m1 m2 m3) := fun z hz S σ H ad en Q k => by
  obtain ⟨y1, e1, hz⟩ := bind_some hz
  obtain ⟨y2, e2, hz⟩ := bind_some hz
  obtain ⟨y3, e3, hz⟩ := bind_some hz
  exact a1 y1 e1 S σ H ad en _ fun w1 H1 f1 z1 => a2 y2 e2 S σ H1 (ad.same f1) (en.same f1) _ fun w2 H2 f2 z2 => a3 y3 e3 S σ H2 (ad.same (f1.trans f2)) (en.same (f1.trans f2)) _ fun w3 H3 f3 z3 => .inl ⟨S, y1, y2, y3, w1, w2, w3, z, rfl, ad.same (f1.trans (f2.trans f3)), h1.sta _ _ _ _ _ (f2.trans f3).hide z1, h2.sta _ _ _ _ _ f3.hide z2, z3, hz, fun u H' e z' => k u _ H' (f1.trans (f2.trans f3)) e z'⟩
inductive spx4 (r1 : Rp α) (r2 : Rp β) (r3 : Rp γ) (r4 : Rp δ) (f : α → β → γ → δ → Option Str) (K : PySem.W.Frag) (mg : Str → Option Value) (us : List V) (H : Hp) (Q : VK) (E : XK) : Prop
  | mk (S x1 x2 x3 x4 v1 v2 v3 v4 n) (c0 : us = [v1, v2, v3, v4]) (c1 : AdmL S H) (c2 : r1 K (hide S H) v1 x1) (c3 : r2 K (hide S H) v2 x2) (c4 : r3 K (hide S H) v3 x3) (c5 : r4 K (hide S H) v4 x4) (c6 : f x1 x2 x3 x4 = some n) (c7 : ∀ c H', mg n = some c → Same H H' → E c none H') : spx4 r1 r2 r3 r4 f K mg us H Q E
theorem evx_4 {r1 : Rp α} {r2 : Rp β} {r3 : Rp γ} {r4 : Rp δ} [h1 : StaC r1] [h2 : StaC r2] [h3 : StaC r3] {sp : Sp} {f : α → β → γ → δ → Option Str} {t1 : TE} {m1 : Option α} (a1 : Ev K ks t1 (vs r1) m1) {t2 : TE} {m2 : Option β} (a2 : Ev K ks t2 (vs r2) m2) {t3 : TE} {m3 : Option γ} (a3 : Ev K ks t3 (vs r3) m3) {t4 : TE} {m4 : Option δ} (a4 : Ev K ks t4 (vs r4) m4) : EvX K mg E ks (tCallS (spB sp (spx4 r1 r2 r3 r4 f K mg)) E (tCons t1 (tCons t2 (tCons t3 (tCons t4 tNil))))) (B4 f m1 m2 m3 m4) := fun n hz S σ H ad en k Q => by
  obtain ⟨y1, e1, hz⟩ := bind_some hz
  obtain ⟨y2, e2, hz⟩ := bind_some hz
  obtain ⟨y3, e3, hz⟩ := bind_some hz
  obtain ⟨y4, e4, hz⟩ := bind_some hz
  exact a1 y1 e1 S σ H ad en _ fun w1 H1 f1 z1 => a2 y2 e2 S σ H1 (ad.same f1) (en.same f1) _ fun w2 H2 f2 z2 => a3 y3 e3 S σ H2 (ad.same (f1.trans f2)) (en.same (f1.trans f2)) _ fun w3 H3 f3 z3 => a4 y4 e4 S σ H3 (ad.same (f1.trans (f2.trans f3))) (en.same (f1.trans (f2.trans f3))) _ fun w4 H4 f4 z4 => .inr ⟨S, y1, y2, y3, y4, w1, w2, w3, w4, n, rfl, ad.same (f1.trans (f2.trans (f3.trans f4))), h1.sta _ _ _ _ _ (f2.trans (f3.trans f4)).hide z1, h2.sta _ _ _ _ _ (f3.trans f4).hide z2, h3.sta _ _ _ _ _ f4.hide z3, z4, hz, fun c H' hc e => k c H' hc ((f1.trans (f2.trans (f3.trans f4))).trans e)⟩
theorem evb_4 {r1 : Rp α} {r2 : Rp β} {r3 : Rp γ} {r4 : Rp δ} [h1 : StaC r1] [h2 : StaC r2] [h3 : StaC r3] {rr : Rr ε} {sq : Sp} {f : α → β → γ → δ → Option ε} {t1 : TE} {m1 : Option α} (a1 : Ev K ks t1 (vs r1) m1) {t2 : TE} {m2 : Option β} (a2 : Ev K ks t2 (vs r2) m2) {t3 : TE} {m3 : Option γ} (a3 : Ev K ks t3 (vs r3) m3) {t4 : TE} {m4 : Option δ} (a4 : Ev K ks t4 (vs r4) m4) : EvR K ks (tCallS (spB (sp4 r1 r2 r3 r4 rr f K) sq) E (tCons t1 (tCons t2 (tCons t3 (tCons t4 tNil))))) rr (B4 f m1 m2 m3 m4) := fun z hz S σ H ad en Q k => by
  obtain ⟨y1, e1, hz⟩ := bind_some hz
  obtain ⟨y2, e2, hz⟩ := bind_some hz
  obtain ⟨y3, e3, hz⟩ := bind_some hz
  obtain ⟨y4, e4, hz⟩ := bind_some hz
  exact a1 y1 e1 S σ H ad en _ fun w1 H1 f1 z1 => a2 y2 e2 S σ H1 (ad.same f1) (en.same f1) _ fun w2 H2 f2 z2 => a3 y3 e3 S σ H2 (ad.same (f1.trans f2)) (en.same (f1.trans f2)) _ fun w3 H3 f3 z3 => a4 y4 e4 S σ H3 (ad.same (f1.trans (f2.trans f3))) (en.same (f1.trans (f2.trans f3))) _ fun w4 H4 f4 z4 => .inl ⟨S, y1, y2, y3, y4, w1, w2, w3, w4, z, rfl, ad.same (f1.trans (f2.trans (f3.trans f4))), h1.sta _ _ _ _ _ (f2.trans (f3.trans f4)).hide z1, h2.sta _ _ _ _ _ (f3.trans f4).hide z2, h3.sta _ _ _ _ _ f4.hide z3, z4, hz, fun u H' e z' => k u _ H' (f1.trans (f2.trans (f3.trans f4))) e z'⟩

/-! ### what raises: statements -/
/-- what is known where the exception flies -/
noncomputable def XOk (K : PySem.W.Frag) (S0 : List Addr) (H0 Hm : Hp) (kx : Option (List Kd)) (σ : St) (H : Hp) : Prop := match kx with
  | none => Same H0 H
  | some ks => StOk K S0 H0 Hm ks σ H
noncomputable def KX (kx : Option (List Kd)) (ks : List Kd) : Prop := kx = none ∨ ∃ ks', kx = some ks' ∧ KWk ks ks'
theorem KWk.refl : ∀ ks : List Kd, KWk ks ks
  | [] => .nil
  | _ :: ks => .same (KWk.refl ks)
theorem kx_none : KX none ks := .inl rfl
theorem kx_same : KX (some ks) ks := .inr ⟨ks, rfl, KWk.refl ks⟩
theorem StOk.x {S0 : List Addr} {H0 Hm : Hp} {kx : Option (List Kd)} {σ : St} {H : Hp} (h : StOk K S0 H0 Hm ks σ H) (w : KX kx ks) : XOk K S0 H0 Hm kx σ H := by
  rcases w with rfl | ⟨ks', rfl, w⟩
  · obtain ⟨S, _, _, s3, _⟩ := id h
    exact s3
  · exact h.weak w
noncomputable def SJX (K : PySem.W.Frag) (mg : Str → Option Value) (E : St → XK) (kx : Option (List Kd)) (ks : List Kd) (t : TS) (m : Option Str) : Prop :=
  ∀ n, m = some n → ∀ S0 H0 Hm, AdmL S0 H0 → ∀ (D : Ends) σ H, StOk K S0 H0 Hm ks σ H → (∀ c σ' H', mg n = some c → XOk K S0 H0 Hm kx σ' H' → E σ' c none H') → t D σ H
variable {kx : Option (List Kd)}
theorem StOk.on {S0 : List Addr} {H0 Hm H1 : Hp} {σ : St} {H : Hp} {S : List Addr} (s1 : ∀ b ∈ S0, b ∈ S) (s2 : AdmL S H) (s3 : Same H0 H) (s4 : Same Hm (hide S H)) (s5 : EnvOk K S H ks σ) (s6 : OwnOk H0 ks σ) (e1 : Same H H1) : StOk K S0 H0 Hm ks σ H1 :=
  ⟨S, s1, s2.same e1, s3.trans e1, s4.trans e1.hide, s5.same e1, s6⟩
theorem sjx_no {t : TS} : SJX K mg E kx ks t none := fun n hn => by cases hn
theorem sjx_ev {te : TE} {m : Option Str} (he : EvX K mg E ks te m) (w : KX kx ks) {t : TS} (ht : ∀ D σ H, (∀ Q, te σ H Q) → t D σ H) : SJX K mg E kx ks t m := fun n hn S0 H0 Hm ad D σ H st k => by
  obtain ⟨S, s1, s2, s3, s4, s5, s6⟩ := id st
  exact ht D σ H (he n hn S σ H s2 s5 fun c H' hc e => k c σ H' hc ((StOk.on s1 s2 s3 s4 s5 s6 e).x w))
theorem sjx_expr {te : TE} {m : Option Str} (he : EvX K mg E ks te m) (w : KX kx ks) : SJX K mg E kx ks (tDrop te) m := sjx_ev he w fun D σ H h => h _
theorem sjx_ret {te : TE} {m : Option Str} (he : EvX K mg E ks te m) (w : KX kx ks) : SJX K mg E kx ks (tRet te) m := sjx_ev he w fun D σ H h => h _
theorem sjx_asg {te : TE} {g : TG} {m : Option Str} (he : EvX K mg E ks te m) (w : KX kx ks) : SJX K mg E kx ks (tAsg te g) m := sjx_ev he w fun D σ H h => h _
theorem sjx_raise {E0 : XK} {C : Addr} {x : Str} (hx : mg x = some (.ref C)) : SJX K mg (fun _ => E0) none ks (tRaise E0 C) (some x) := fun n hn S0 H0 Hm ad D σ H st k => by
  cases hn
  exact k (.ref C) σ H hx (st.x kx_none)
noncomputable def sqX {ρ τ : Type} (m : Option (Fl ρ τ)) (k : τ → Option Str) : Option Str := m.bind fun o => match o with
  | .nx s => k s
  | .rt _ => none
theorem sjx_seq {rr : Rr ρ} {t u : TS} {m : Option (Fl ρ τ)} {ks1 : τ → List Kd} {k : τ → Option Str} (h1 : SJ K ks t m ks1 rr) (h2 : ∀ s, SJX K mg E kx (ks1 s) u (k s)) : SJX K mg E kx ks (tSeq t u) (sqX m k) := fun n hn S0 H0 Hm ad D σ H st q => by
  obtain ⟨o1, ho1, hn⟩ := bind_some hn
  cases o1 with
  | nx s => exact h1 _ ho1 S0 H0 Hm ad _ σ H st (fun s' e σ' H' st' => by cases e; exact h2 s n hn S0 H0 Hm ad D σ' H' st' q) (fun y e => by cases e)
  | rt y => cases hn
theorem sjx_first {t u : TS} {m : Option Str} (h1 : SJX K mg E kx ks t m) : SJX K mg E kx ks (tSeq t u) m := fun n hn S0 H0 Hm ad D σ H st q => h1 n hn S0 H0 Hm ad _ σ H st q
theorem sjx_if {tc : TT} {t u : TS} {c : Option Bool} {m n : Option Str} (hc : EvT K ks tc c) (h1 : SJX K mg E kx ks t m) (h2 : SJX K mg E kx ks u n) : SJX K mg E kx ks (tIfS tc t u) (BIf c m n) := fun o ho S0 H0 Hm ad D σ H st q => by
  obtain ⟨b, hb, ho⟩ := bind_some ho
  obtain ⟨S, s1, s2, s3, s4, s5, s6⟩ := id st
  refine hc b hb S σ H s2 s5 _ fun H1 e1 => ?_
  have st1 := StOk.on s1 s2 s3 s4 s5 s6 e1
  cases b with
  | true => exact iteT (h1 o ho S0 H0 Hm ad D σ H1 st1 q)
  | false => exact iteF (h2 o ho S0 H0 Hm ad D σ H1 st1 q)
theorem sjx_or {t : TS} {m n : Option Str} (h1 : SJX K mg E kx ks t m) (h2 : SJX K mg E kx ks t n) : SJX K mg E kx ks t (m.or n) := fun o ho => by
  cases m with
  | some a => exact h1 o ho
  | none => exact h2 o ho
theorem body_runx {S : List Addr} {H : Hp} {N : List Str} {us : List V} {ks0 : List Kd} {t : TS} {m : Option Str} {n : Str} {D : Ends} {E0 : XK} (hl : us.length = ks0.length) (hN : ks0.length ≤ N.length) (h : ∀ (i : Nat) v k, us[i]? = some v → ks0[i]? = some k → slotOk K S H k (some v)) (hv : ∀ k ∈ ks0, isOwn k = false) (ad : AdmL S H)
    (hb : SJX K mg (fun _ => E0) none (ks0 ++ List.replicate (N.length - ks0.length) Kd.any) t m) (hm : m = some n) (q : ∀ c H', mg n = some c → Same H H' → E0 c none H') : t D (start N us) H :=
  hb n hm S H _ ad D _ H (start_ok hl hN h hv ad) fun c σ' H' hc z => q c H' hc z
theorem runx2 {r1 : Rp α} [StaC r1] {r2 : Rp β} [StaC r2] {N : List Str} {us : List V} {H : Hp} {Q : VK} {E0 : XK} {D : Ends} {f : α → β → Option Str} {t : TS} (h : spx2 r1 r2 f K mg us H Q E0) (hb : ∀ x1 x2, SJX K mg (fun _ => E0) none ([Kd.vis r1 x1, Kd.vis r2 x2] ++ List.replicate (N.length - 2) Kd.any) t (f x1 x2)) (hN : 2 ≤ N.length := by decide) : t D (start N us) H := by
  obtain ⟨S, x1, x2, v1, v2, n, rfl, ad, z1, z2, hy, q⟩ := h
  exact body_runx (ks0 := [Kd.vis r1 x1, Kd.vis r2 x2]) rfl hN (slotC z1 (slot1 z2)) (ownC (ownC ownN)) ad (hb x1 x2) hy q
theorem lenx2 {r1 : Rp α} [StaC r1] {r2 : Rp β} [StaC r2] {us : List V} {H : Hp} {Q : VK} {E0 : XK} {f : α → β → Option Str} (h : spx2 r1 r2 f K mg us H Q E0) : us.length = 2 := by
  obtain ⟨S, x1, x2, v1, v2, n, rfl, _⟩ := h
  rfl
theorem runx3 {r1 : Rp α} [StaC r1] {r2 : Rp β} [StaC r2] {r3 : Rp γ} [StaC r3] {N : List Str} {us : List V} {H : Hp} {Q : VK} {E0 : XK} {D : Ends} {f : α → β → γ → Option Str} {t : TS} (h : spx3 r1 r2 r3 f K mg us H Q E0) (hb : ∀ x1 x2 x3, SJX K mg (fun _ => E0) none ([Kd.vis r1 x1, Kd.vis r2 x2, Kd.vis r3 x3] ++ List.replicate (N.length - 3) Kd.any) t (f x1 x2 x3)) (hN : 3 ≤ N.length := by decide) : t D (start N us) H := by
  obtain ⟨S, x1, x2, x3, v1, v2, v3, n, rfl, ad, z1, z2, z3, hy, q⟩ := h
  exact body_runx (ks0 := [Kd.vis r1 x1, Kd.vis r2 x2, Kd.vis r3 x3]) rfl hN (slotC z1 (slotC z2 (slot1 z3))) (ownC (ownC (ownC ownN))) ad (hb x1 x2 x3) hy q
theorem lenx3 {r1 : Rp α} [StaC r1] {r2 : Rp β} [StaC r2] {r3 : Rp γ} [StaC r3] {us : List V} {H : Hp} {Q : VK} {E0 : XK} {f : α → β → γ → Option Str} (h : spx3 r1 r2 r3 f K mg us H Q E0) : us.length = 3 := by
  obtain ⟨S, x1, x2, x3, v1, v2, v3, n, rfl, _⟩ := h
  rfl
theorem runx4 {r1 : Rp α} [StaC r1] {r2 : Rp β} [StaC r2] {r3 : Rp γ} [StaC r3] {r4 : Rp δ} [StaC r4] {N : List Str} {us : List V} {H : Hp} {Q : VK} {E0 : XK} {D : Ends} {f : α → β → γ → δ → Option Str} {t : TS} (h : spx4 r1 r2 r3 r4 f K mg us H Q E0) (hb : ∀ x1 x2 x3 x4, SJX K mg (fun _ => E0) none ([Kd.vis r1 x1, Kd.vis r2 x2, Kd.vis r3 x3, Kd.vis r4 x4] ++ List.replicate (N.length - 4) Kd.any) t (f x1 x2 x3 x4)) (hN : 4 ≤ N.length := by decide) : t D (start N us) H := by
  obtain ⟨S, x1, x2, x3, x4, v1, v2, v3, v4, n, rfl, ad, z1, z2, z3, z4, hy, q⟩ := h
  exact body_runx (ks0 := [Kd.vis r1 x1, Kd.vis r2 x2, Kd.vis r3 x3, Kd.vis r4 x4]) rfl hN (slotC z1 (slotC z2 (slotC z3 (slot1 z4)))) (ownC (ownC (ownC (ownC ownN)))) ad (hb x1 x2 x3 x4) hy q
theorem lenx4 {r1 : Rp α} [StaC r1] {r2 : Rp β} [StaC r2] {r3 : Rp γ} [StaC r3] {r4 : Rp δ} [StaC r4] {us : List V} {H : Hp} {Q : VK} {E0 : XK} {f : α → β → γ → δ → Option Str} (h : spx4 r1 r2 r3 r4 f K mg us H Q E0) : us.length = 4 := by
  obtain ⟨S, x1, x2, x3, x4, v1, v2, v3, v4, n, rfl, _⟩ := h
  rfl
end
end L2

/-! isinstance(e, C) of an exception of an own class. Own work. -/
namespace L2
open PySem PySem.Spec PyProof.Rows
structure ExcI (K : PySem.W.Frag) (C : Addr) : Prop where
  ex : ExcK K C
  ga : PySem.W.findIn K (.ref C) "__getattribute__" = some (some (.builtin "BaseException.__getattribute__"))
  gt : PySem.W.findIn K (.ref C) "__getattr__" = some none
  cl : PySem.W.findIn K (.ref C) "__class__" = some (some (.builtin "object.__class__"))
section
variable {prog : Program} {w : World} {A : Around} {E : Value → Shared → Prop} {h : Heap} {g : Array GenState} {d : Drawn} {t : Nat} {os : OsState} {a C : Addr} {o : Obj} {K : PySem.W.Frag}
theorem xc_get {R : Result → Shared → Prop} (X : K.In h) (z : ExcI K C) (hx : h.get? a = some o) (hc : o.cls = .ref C) (hq : R (.ok (.ret (.ref C))) ⟨h, g, d, t, os⟩) :
    codeAny (model prog w) A (.call (.builtin "getset_descriptor.__get__") ⟨[.builtin "object.__class__", .ref a, .ref C], []⟩) R ⟨h, g, d, t, os⟩ := by
  obtain ⟨bm, N', nm, qn, bs, hdct, sn, sub, ab, col, dd, k0, k1, k2, k3, k5, mN, ⟨hC, hK⟩, hN, hni, T⟩ := ExcK.obj X z.ex
  have hT5 : (⟨h, g, d, t, os⟩ : Shared).TypeIs (.builtin "object.__class__") "getset_descriptor" := F.typeOf_object_class
  have hcB : (Value.ref C :: bm).contains (.type (".".intercalate ("object.__class__".cutAt '.').dropLast)) = true := by
    rw [F.owner_object_class, List.contains_cons, T.hasType (show mroV.contains (.type "object") = true by decide)]
    rfl
  refine codeAny_call_builtin F.slot_gs_get.plain F.entry_gs_get (F.slot_gs_get.check _ _ _ _ _ _ _ _ hT5 (F.args_gs_get _ _ _) ?_)
  repeat (any_goals (first | assumption | (with_reducible refine wpAny_loadPart_at hx ?_; rw [hc]) | (with_reducible refine wpAny_isSubtype_exc hC ?_; rw [hcB]) | wp_step))
  refine ⟨Code.quiet_builtin _ (by decide +kernel), codeAny_builtin F.entry_object_class ?_⟩
  repeat (any_goals (first | assumption | (with_reducible refine wpAny_loadPart_at hx ?_; rw [hc]) | wp_step))
theorem xc_entry {tk : Tok} {Q : Fin → Shared → Prop} (X : K.In h) (z : ExcI K C) (hx : h.get? a = some o) (hc : o.cls = .ref C) (hq : Q (.done (.ret (.ref C))) ⟨h, g, d, t, os⟩) :
    wpAny (model prog w) A (Builtin.«object.__getattribute__» ⟨[.ref a, .str "__class__" tk], []⟩) Q E ⟨h, g, d, t, os⟩ := by
  have hT5 : (⟨h, g, d, t, os⟩ : Shared).TypeIs (.builtin "object.__class__") "getset_descriptor" := F.typeOf_object_class
  have f5 := F.typeOf_object_class
  have f6 := F.slot_gs_get.lookup
  have f7 := F.slot_gs_set.lookup
  have L1 := PySem.W.looks_findIn (M := model prog w) X z.cl
  repeat (any_goals (first | assumption | (with_reducible refine wpAny_loadPart_at hx ?_; rw [hc]) | with_reducible refine L1.at ?_ | wp_step))
  refine xc_get X z hx hc ?_
  repeat (any_goals (first | assumption | wp_step))
theorem xc_check {M : Model} {nameV : Value} {Q : Unit → Shared → Prop} (X : K.In h) (z : ExcI K C) (hx : h.get? a = some o) (hc : o.cls = .ref C) (hq : Q () ⟨h, g, d, t, os⟩) : wpAny M A (checkBuiltinCall "BaseException.__getattribute__" ⟨[.ref a, nameV], []⟩) Q E ⟨h, g, d, t, os⟩ := by
  obtain ⟨bm, N', nm, qn, bs, hdct, sn, sub, ab, col, dd, k0, k1, k2, k3, k5, mN, ⟨hC, hK⟩, hN, hni, T⟩ := ExcK.obj X z.ex
  have e1 : builtinKind "BaseException.__getattribute__" = some .slot := by decide +kernel
  have e2 : splitId "BaseException.__getattribute__" = some ("BaseException", "__getattribute__") := by decide +kernel
  have hcB : (Value.ref C :: bm).contains (.type "BaseException") = true := by
    rw [List.contains_cons, T.hasType (show mroV.contains (.type "BaseException") = true by decide)]
    rfl
  have e3 := F.args_bexc_ga (.ref a) nameV
  simp only [checkBuiltinCall, e1, e2]
  refine wpAny_bind ?_
  unfold isInstance
  repeat (first | (with_reducible refine wpAny_loadPart_at hx ?_; rw [hc]) | (with_reducible refine wpAny_isSubtype_exc hC ?_; rw [hcB]) | wp_step)
  exact hq
theorem xc_by {tk : Tok} {fill expr : Bool} {Q : Value → Shared → Prop} (X : K.In h) (z : ExcI K C) (hx : h.get? a = some o) (hc : o.cls = .ref C) (hq : Q (.ref C) ⟨h, g, d, t, os⟩) :
    wpAny (model prog w) A (getAttrBy (.ref a) (.str "__class__" tk) fill expr) Q E ⟨h, g, d, t, os⟩ := by
  have f3 := PySem.F.attrBase_ValueError.ga.bind (.ref a)
  have g0 : (expr && onTheHeap (Value.builtin "BaseException.__getattribute__")) = false := by cases expr <;> rfl
  have g2 : (Value.builtin "BaseException.__getattribute__" == Value.builtin "object.__getattribute__") = false := by decide +kernel
  have g1 : (onTheHeap (Value.ref C) && Value.builtin "BaseException.__getattribute__" == Value.builtin "object.__getattribute__") = false := by rw [g2]; rfl
  have L1 := PySem.W.looks_findIn (M := model prog w) X z.ga
  have L2 := PySem.W.looks_findIn (M := model prog w) X z.gt
  repeat (any_goals (first | assumption | (with_reducible refine wpAny_loadPart_at hx ?_; rw [hc]) | with_reducible refine L1.at ?_ | with_reducible refine L2.at ?_ | wp_step))
  refine codeAny_call_builtin PySem.F.attrBase_ValueError.ga.plain F.entry_bexc_ga (xc_check X z hx hc (xc_entry X z hx hc ?_))
  repeat (any_goals (first | assumption | wp_step))
theorem xc_attr {Q : Option Value → Shared → Prop} (X : K.In h) (z : ExcI K C) (hx : h.get? a = some o) (hc : o.cls = .ref C) (hq : Q (some (.ref C)) ⟨h, g, d, t + 1, os⟩) : wpAny (model prog w) A (getAttr? (.ref a) "__class__") Q E ⟨h, g, d, t, os⟩ := by
  unfold getAttr? getAttrBy?
  repeat (any_goals (first | assumption | with_reducible apply xc_by X z hx hc | wp_step))
end
end L2
namespace L2
open PySem PySem.Spec PyProof.Rows
theorem kitx_exc {K : PySem.W.Frag} {a C : Addr} (z : ExcI K C) : PySem.W.KitX K (.ref a) (.ref C) (fun h => ∃ o, h.get? a = some o ∧ o.cls = .ref C) where
  ty := fun M h _ ⟨o, h1, h2⟩ => h2 ▸ (PySem.W.Looks.ld h1).andThen .now
  it := fun _ _ X _ => by
    obtain ⟨bm, N', nm, qn, bs, hdct, sn, sub, ab, col, dd, k0, k1, k2, k3, k5, mN, ⟨hC, hK⟩, _⟩ := ExcK.obj X z.ex
    intro A' Q' E' s' k q
    unfold isType loadHead
    exact wpAny_bind (wpAny_loadPart (k _ _ hC) (wpAny_pure q))
  ne := fun h tp dd its n sl X htp => by
    obtain ⟨bm, N', nm, qn, bs, hdct, sn, sub, ab, col, dd, k0, k1, k2, k3, k5, mN, ⟨hC, hK⟩, _⟩ := ExcK.obj X z.ex
    refine Bool.eq_false_iff.mpr fun q => ?_
    cases Value.ref.inj (beq_iff_eq.mp q)
    exact absurd (Value.type.inj (congrArg Obj.cls (Option.some.inj (hC.symm.trans htp)))) (by decide)
  ca := fun X ⟨o, h1, h2⟩ k => xc_attr X z h1 h2 k
/-- isinstance of the exception at a -/
noncomputable def rIsx (a : Addr) (c : V) (b : Bool) : List V → Hp → VK → Prop := fun xs H Q => xs = [.ref a, c] ∧ Q (.bl b) H
theorem call_isx {X : Cx} {a C : Addr} {oe : Obj} {c : V} {u : Value} {b : Bool} (hp : (a, oe) ∈ X.pn) (hc : oe.cls = .ref C) (z : ExcI X.K C) (r : RelV c u) (hr : ∀ u', RelV c u' → u' = u) (e : PySem.W.kitOne X.K (.ref C) u = some b) : CallR X (.builtin "isinstance") (rIsx a c b) := by
  intro pins s σ H xs us Q I rv h
  obtain ⟨rfl, q⟩ := h
  obtain ⟨u1, u2, rfl, r1, r2⟩ := Vals.two rv
  cases (show u1 = .ref a from r1)
  cases hr _ r2
  obtain ⟨h1, _⟩ := I.pin _ (List.mem_append_left _ hp)
  exact PySem.W.kia_one (kitx_exc (a := a) z) I.kIn ⟨oe, h1, hc⟩ e (fun z => nomatch z) fun tk => ⟨.bl b, H, I.tok _, rfl, q⟩
/-- what the handler's class catches -/
structure Cat (K : PySem.W.Frag) (W C : Addr) : Prop where
  ex : ExcI K C
  sub : PySem.W.subIn K (.ref C) (.ref W) = some true
theorem exc_matches {M : Model} {A : Around} {E : Value → Shared → Prop} {K : PySem.W.Frag} {h : Heap} {g : Array GenState} {d : Drawn} {t : Nat} {os : OsState} {a C W : Addr} {oe : Obj} {Q : Bool → Shared → Prop} (X : K.In h) (hw : ExcK K W) (z : Cat K W C) (he : h.get? a = some oe) (hc : oe.cls = .ref C)
    (hq : Q true ⟨h, g, d, t, os⟩) : wpAny M A (excMatches (.ref a) (.ref W)) Q E ⟨h, g, d, t, os⟩ := by
  obtain ⟨bm, N', nm, qn, bs, hdct, sn, sub, ab, col, dd, k0, k1, k2, k3, k5, mN, ⟨hW, hK⟩, hN, hni, T⟩ := ExcK.obj X hw
  have hcB : (Value.ref W :: bm).contains (.type "BaseException") = true := by
    rw [List.contains_cons, T.hasType (show mroV.contains (.type "BaseException") = true by decide)]
    rfl
  have L1 := PySem.W.looks_subIn (M := M) X z.sub
  have f := tc_notTuple
  unfold excMatches
  repeat (first | (with_reducible refine wpAny_loadPart_at he ?_; rw [hc]) | with_reducible refine wpAny_loadPart_at hW ?_ | with_reducible refine L1.at ?_ | (with_reducible refine wpAny_isSubtype_exc hW ?_; rw [hcB]) | wp_step)
  exact hq
end L2

/-! try: .. except C as e: .. , the handler returning on every way. Own work. -/
namespace L2
open PySem PySem.Spec PyProof.Rows
theorem ObjOk.at {P : Program} {w : World} {H : Hp} {h : Heap} {a : Addr} {o : HO} (x : ObjOk P w H h a o) : ∃ u, h.get? a = some u := by
  cases o with
  | lst xs => obtain ⟨_, _, _, _, e⟩ := x; exact ⟨_, e⟩
  | tup xs => obtain ⟨_, _, _, p⟩ := x; obtain ⟨o, e, _⟩ := p; exact ⟨o, e⟩
  | dK kvs => obtain ⟨_, _, _, _, o, _, _, e, _⟩ := x; exact ⟨_, e⟩
  | dT kvs => obtain ⟨_, _, _, _, o, _, _, e, _⟩ := x; exact ⟨_, e⟩
  | set S n => obtain ⟨o, _, _, _, e, _⟩ := x; exact ⟨_, e⟩
  | ins C dx fs => obtain ⟨_, _, _, e, _⟩ := x; exact ⟨_, e⟩
  | own y => exact x
  | xd fs => obtain ⟨_, ⟨_, _, _, e, _⟩, _⟩ := x; exact ⟨_, e⟩
  | rng lo hi => obtain ⟨_, _, _, e⟩ := x; exact ⟨_, e⟩
  | frz ob u => obtain ⟨e, _⟩ := x; exact ⟨_, e⟩
  | tbl ps => exact ⟨_, show h.get? a = some _ from x⟩
  | met f y => exact ⟨_, show h.get? a = some _ from x⟩
  | ext φ => obtain ⟨_, e, _⟩ := x; exact e
section
variable {X : Cx} {pins : List (Addr × Obj)} {σ : St} {H H' : Hp} {s s1 s2 : Shared} {B : Heap}
/-- where the exception came to: all that was known ahead of the call -/
theorem Inv.land (I : Inv X pins σ H s) (L : Lies X.prog X.w X.stack H H' s.heap B s1.heap) (ho : s2.os = s.os) (hg : AllBare s2.gens) (st : B.StaysIn s2.heap) (up : s1.heap.UpToSlots s2.heap) : Inv X pins σ H' s2 := by
  have L2 : Lies X.prog X.w X.stack H H' s.heap B s2.heap := ⟨L.keep, L.there, fun b o q n hb => by
    obtain ⟨sl, e⟩ := L.slot b o q n hb
    obtain ⟨_, o', ho', hd⟩ := I.stack.mem hb
    rw [q] at ho'
    cases ho'
    obtain ⟨sl', e'⟩ := up b _ e (show ∀ vs, o.data ≠ .fields vs from hd)
    exact ⟨sl', e'⟩, L.free, L.tups, L.frzs, L.tbls, L.hok⟩
  exact I.call' ho (L2.un st I.stkFree) (L.hok.kept st) hg fun b z => absurd z (by simp)
/-- the handler's context -/
noncomputable abbrev Cx.at2 (X : Cx) (a : Addr) (pn : List (Addr × Obj)) : Cx := { X with A := X.A.mark (some (.ref a)), calm := false, pn := pn, xe := fun _ _ => False }
noncomputable abbrev Cx.at1 (X : Cx) (pn : List (Addr × Obj)) (xe : Value → Shared → Prop) : Cx := { X with pn := pn, xe := xe }
theorem Inv.to2 (I : Inv X pins σ H s) {a : Addr} {pn : List (Addr × Obj)} (hp : ∀ p ∈ pn, s.heap.get? p.1 = some p.2 ∧ H p.1 = none ∧ p.1 ≠ X.env.locals ∧ p.1 ∉ X.fs ∧ ∀ v, p.2.data ≠ .cell v) : Inv (X.at2 a pn) [] σ H s :=
  ⟨⟨I.ok.mod, I.ok.kind, I.ok.glob, I.ok.blt, I.ok.above, I.ok.inj, I.ok.has, I.ok.cab, (fun z => nomatch z), I.ok.frames, I.ok.stk, I.ok.exf, I.ok.bs, I.ok.bsz, I.ok.noex, I.ok.exfs, I.ok.funs, I.ok.frf⟩,
    I.os, I.bare, I.base, I.loc, I.cell, I.free, I.freeC, fun p h => hp p (by simpa using h), I.hok, I.len⟩
theorem Inv.to1 (I : Inv X pins σ H s) {xe : Value → Shared → Prop} : Inv (X.at1 (X.pn ++ pins) xe) [] σ H s :=
  ⟨⟨I.ok.mod, I.ok.kind, I.ok.glob, I.ok.blt, I.ok.above, I.ok.inj, I.ok.has, I.ok.cab, I.ok.hd, I.ok.frames, I.ok.stk, I.ok.exf, I.ok.bs, I.ok.bsz, I.ok.noex, I.ok.exfs, I.ok.funs, I.ok.frf⟩,
    I.os, I.bare, I.base, I.loc, I.cell, I.free, I.freeC, fun p h => I.pin p (by simpa using h), I.hok, I.len⟩
theorem Inv.of1 {xe : Value → Shared → Prop} {pins' : List (Addr × Obj)} (I : Inv (X.at1 (X.pn ++ pins) xe) pins' σ H s) : Inv X pins σ H s :=
  ⟨⟨I.ok.mod, I.ok.kind, I.ok.glob, I.ok.blt, I.ok.above, I.ok.inj, I.ok.has, I.ok.cab, I.ok.hd, I.ok.frames, I.ok.stk, I.ok.exf, I.ok.bs, I.ok.bsz, I.ok.noex, I.ok.exfs, I.ok.funs, I.ok.frf⟩,
    I.os, I.bare, I.base, I.loc, I.cell, I.free, I.freeC, fun p h => I.pin p (List.mem_append_left _ h), I.hok, I.len⟩
theorem Inv.of2 {a : Addr} {pn : List (Addr × Obj)} (I : Inv (X.at2 a pn) [] σ H s) (hp : ∀ p ∈ X.pn ++ pins, p ∈ pn) (hd : X.calm = true → X.A.handled = none) : Inv X pins σ H s :=
  ⟨⟨I.ok.mod, I.ok.kind, I.ok.glob, I.ok.blt, I.ok.above, I.ok.inj, I.ok.has, I.ok.cab, hd, I.ok.frames, I.ok.stk, I.ok.exf, I.ok.bs, I.ok.bsz, I.ok.noex, I.ok.exfs, I.ok.funs, I.ok.frf⟩,
    I.os, I.bare, I.base, I.loc, I.cell, I.free, I.freeC, fun p h => I.pin p (List.mem_append_left _ (hp p h)), I.hok, I.len⟩
/-- the names' object changed, nothing else: nothing is known of the names -/
theorem Inv.gone {h' : Heap} {t' : Nat} {m' : Str → Option Value} (I : Inv X pins σ H s) (hn : h'.Ns X.env.locals m') (hs : Heap.SameBut X.env.locals s.heap h') : Inv X pins (List.replicate X.N.length none) H { s with heap := h', toks := t' } := by
  have ne : ∀ {b : Addr} {o : Obj}, X.s₀.heap.get? b = some o → b ≠ X.env.locals := fun e => Nat.ne_of_lt (Nat.lt_of_lt_of_le (Heap.lt_size e) I.ok.above)
  refine ⟨I.ok, I.os, I.bare, ⟨fun b o e n hb hx => ?_, fun b o e n hb hx => ?_, I.base.free, fun b o e hx => ?_, I.base.tups, I.base.frzs, I.base.tbls⟩, ⟨m', hn, fun i x v h1 h2 h3 => ?_⟩, fun y c e => ?_, I.free, I.freeC, fun p hp => ?_, fun b o e => ?_, by simp⟩
  · exact (hs.2 b (ne e)).trans (I.base.keep b o e n hb hx)
  · obtain ⟨sl, q⟩ := I.base.slot b o e n hb hx
    exact ⟨sl, (hs.2 b (ne e)).trans q⟩
  · obtain ⟨o', q⟩ := I.base.there b o e hx
    exact ⟨o', (hs.2 b (ne e)).trans q⟩
  · rw [List.getElem?_replicate] at h2
    split at h2 <;> cases h2
  · obtain ⟨v, z⟩ := I.cell y c e
    exact ⟨v, z.sameBut hs (I.cne y c e)⟩
  · obtain ⟨e, n, hl, nf, dd⟩ := I.pin p hp
    exact ⟨(hs.2 p.1 hl).trans e, n, hl, nf, dd⟩
  · refine (I.hok b o e).stay (fun c u hc q => (hs.2 c ?_).trans q) (fun _ q => q) fun _ _ q => q
    rintro rfl
    rcases hc with rfl | hc
    · rw [I.free] at e; cases e
    · rw [I.free] at hc; cases hc

/-- the try: tb the suite by what is wanted of exceptions, i the name's slot, th the handler -/
noncomputable def tTry (Φ : Addr → Prop) (tb : (St → XK) → TS) (i : Nat) (th : Addr → Addr → TS) : TS := fun D σ H =>
  tb (fun σ' c _ H' => ∃ C, c = .ref C ∧ Φ C ∧ ∀ a, th a C { nx := fun _ _ => False, rt := D.rt } (σ'.set i (some (.ref a))) H') D σ H
/-- an exception that came out of the suite, and what is known where it is caught -/
inductive TryX (X : Cx) (pins : List (Addr × Obj)) (Φ : Addr → Prop) (th : Addr → Addr → TS) (D : Ends) (i : Nat) (e : Value) (s' : Shared) : Prop
  | mk (a : Addr) (a0 : Value) (B : Heap) (σ' : St) (H' : Hp) (C : Addr) (he : e = .ref a) (fl : Heap.FlyingW B X.stack a (.ref C) a0 s'.heap) (hok : HOk X.prog X.w H' B)
    (land : ∀ s2 : Shared, s2.os = s'.os → s2.gens = s'.gens → B.StaysIn s2.heap → s'.heap.UpToSlots s2.heap → Inv X pins σ' H' s2) (cat : Φ C)
    (hE : ∀ a, th a C { nx := fun _ _ => False, rt := D.rt } (σ'.set i (some (.ref a))) H') : TryX X pins Φ th D i e s'
theorem ps_try {W : Addr} {Φ : Addr → Prop} (hΦ : ∀ C, Φ C → Cat X.K W C) {x n : Str} {i : Nat} {body suite : List Stmt} {b0 : Stmt} {np hpos pos : Pos} {tb : (St → XK) → TS} {th : Addr → Addr → TS}
    (hb : ∀ pn xe E, PassesS (CX1 X.prog X.w) (X.at1 pn xe) E → PSs (X.at1 pn xe) body (tb E))
    (hh : ∀ (a C : Addr) (oe : Obj) (pn : List (Addr × Obj)), Φ C → oe.cls = .ref C → (a, oe) ∈ pn → PSs (X.at2 a pn) (b0 :: suite) (th a C))
    (hm : X.mg x = some (.ref W)) (hw : ExcK X.K W) (hg : Gl X x) (hN : X.N.Nodup) (hi : X.N[i]? = some n) (hl : X.env.scope.names.lookup n = some .local) (hst : X.stack = X.env :: X.outer) (hfr : X.env.frame = some X.env.locals)
    (hdb : (x == ("__debug__" : Str)) = false := by decide) :
    PS X (.Try body [.ExceptHandler (some (.Name x np)) (some n) (b0 :: suite) hpos] [] [] pos) (tTry Φ tb i th) := by
  intro pins s σ H D I h
  have pas : PassesS (CX1 X.prog X.w) (X.at1 (X.pn ++ pins) (TryX X pins Φ th D i))
      (fun σ' c _ H' => ∃ C, c = .ref C ∧ Φ C ∧ ∀ a, th a C { nx := fun _ _ => False, rt := D.rt } (σ'.set i (some (.ref a))) H') := by
    intro pins' σ' H1 s1 e s' I1 z
    obtain ⟨a, cls, a0, B, H', he, ho, hgn, fl, L, C, rfl, cat, hE⟩ := z
    exact ⟨a, a0, B, σ', H', C, he, fl, L.hok, fun s2 e1 e2 st up => I1.of1.land L (e1.trans ho) (by rw [e2]; exact hgn) st up, cat, hE⟩
  refine wpAny_Try_except (wpAny_mono (hb _ _ _ pas [] s σ H D I.to1 h) (fun f s1 q => ?_) fun e s1 q => ?_)
  · cases f with
    | next =>
      obtain ⟨σ', H', I', q⟩ := q
      exact wpAny_execs_nil ⟨σ', H', I'.of1, q⟩
    | brk => obtain ⟨σ', H', I', q⟩ := q; exact ⟨σ', H', I'.of1, q⟩
    | cont => obtain ⟨σ', H', I', q⟩ := q; exact ⟨σ', H', I'.of1, q⟩
    | ret u => obtain ⟨v, σ', H', I', r, q⟩ := q; exact ⟨v, σ', H', I'.of1, r, q⟩
  · obtain ⟨a, a0, B, σ', H', C, rfl, fl, hokB, land, cat, hE⟩ := q
    have hfs : X.A.frames = some (X.env :: X.outer) := by rw [← hst]; exact I.ok.frames
    rw [hst] at fl
    refine wpAny_looks_onW hfs hfr fl fun h4 held4 up4 => ?_
    refine wpAny_landsW held4 fun h5 held5 up5 => ?_
    have J5 : Inv X pins σ' H' { s1 with heap := h5 } := land _ rfl rfl held5.1 (up4.trans up5)
    have hna : H' a = none := by
      cases q : H' a with
      | none => rfl
      | some o =>
        obtain ⟨u, e⟩ := (hokB a o q).at
        rw [fl.2.1] at e; cases e
    have J5' : Inv (X.at2 a (X.pn ++ pins)) [] σ' H' { s1 with heap := h5 } := J5.to2 fun p hp => J5.pin p hp
    obtain ⟨ob, hob, hobc⟩ := held5.there
    refine wpAny_handleBy_cons (codeAny_handlers_test (ld_glob (X := X.at2 a (X.pn ++ pins)) J5' hg hm ?_ hdb)) (by intro q; cases q)
    refine exc_matches (K := X.K) J5.kIn hw (hΦ C cat) hob hobc (codeAny_handlers_suite_as ?_)
    refine lands_againW held5 fun h6 fl6 up6 => ?_
    have J6 : Inv X pins σ' H' { s1 with heap := h6 } := land _ rfl rfl fl6.1 ((up4.trans up5).trans up6)
    obtain ⟨oe, ws, hoe, hoec, hoed, _⟩ := fl6.first
    have hpin : ∀ p ∈ (X.pn ++ pins) ++ [(a, oe)], ({ s1 with heap := h6 } : Shared).heap.get? p.1 = some p.2 ∧ H' p.1 = none ∧ p.1 ≠ X.env.locals ∧ p.1 ∉ X.fs ∧ ∀ v, p.2.data ≠ .cell v := fun p hp => by
      rcases List.mem_append.mp hp with hp | hp
      · exact J6.pin p hp
      · cases List.mem_singleton.mp hp
        refine ⟨hoe, hna, ?_, fun z => ?_, fun v z => ?_⟩
        · rintro rfl
          obtain ⟨m, ⟨o, es, ep, ho, hd, _⟩, _⟩ := J6.loc
          rw [show h6.get? X.env.locals = some o from ho] at hoe
          cases hoe
          rw [hd] at hoed; cases hoed
        · obtain ⟨_, o', ho', hd⟩ := J6.stack.mem (show a ∈ frs X.stack by rw [hst]; exact frs_in z)
          rw [show h6.get? a = some o' from ho'] at hoe
          cases hoe
          exact hd ws hoed
        · rw [show oe.data = .cell v from z] at hoed; cases hoed
    have J6' : Inv (X.at2 a ((X.pn ++ pins) ++ [(a, oe)])) [] σ' H' { s1 with heap := h6 } := J6.to2 hpin
    refine store_ok (X := X.at2 a ((X.pn ++ pins) ++ [(a, oe)])) J6' hN hi (.inl hl) (v := .ref a) rfl (fun s7 J7 => ?_) (.inr hl)
    refine wpAny_mono (hh a C oe _ cat hoec (by simp) [] s7 _ H' _ J7 (hE a)) (fun f s8 q8 => ?_) fun _ _ z => False.elim z
    cases f with
    | next => obtain ⟨_, _, _, q⟩ := q8; exact False.elim q
    | brk => obtain ⟨_, _, _, q⟩ := q8; exact False.elim q
    | cont => obtain ⟨_, _, _, q⟩ := q8; exact False.elim q
    | ret u =>
      obtain ⟨v, σ'', H'', J8, rv, q⟩ := q8
      have J8' : Inv X pins σ'' H'' s8 := J8.of2 (fun p hp => List.mem_append_left _ hp) I.ok.hd
      obtain ⟨m, hn, _⟩ := J8'.loc
      refine wpAny_nameGoes hl hn (by rw [J8'.ok.kind]; rfl) fun h' m' hn' hs => ?_
      exact ⟨v, _, H'', J8'.gone hn' hs, rv, q⟩
end
end L2

/-! The typed reading of a try. Own work. -/
namespace L2
open PySem PySem.Spec PyProof.Rows
/-- an exception's class by its name, what isinstance says of it -/
structure XPn (K : PySem.W.Frag) (mg : Str → Option Value) (W : Addr) (Ds : List Str) (n : Str) (C : Addr) : Prop where
  cat : Cat K W C
  mgn : mg n = some (.ref C)
  own : ∀ D ∈ Ds, ∃ d, mg D = some (.ref d) ∧ PySem.W.kitOne K (.ref C) (.ref d) = some (decide (n = D))
  val : PySem.W.kitOne K (.ref C) (.type "ValueError") = some true
noncomputable def XPs (K : PySem.W.Frag) (mg : Str → Option Value) (W : Addr) (Ds names : List Str) (C : Addr) : Prop := ∃ n ∈ names, XPn K mg W Ds n C
theorem XPs.cat {K : PySem.W.Frag} {mg : Str → Option Value} {W : Addr} {Ds names : List Str} (C : Addr) (h : XPs K mg W Ds names C) : Cat K W C := let ⟨_, _, z⟩ := h; z.cat
noncomputable def isaB (K : PySem.W.Frag) (mg : Str → Option Value) (C : Addr) (D : Str) : Bool := match mg D with
  | some u => PySem.W.kitOne K (.ref C) u == some true
  | none => false
noncomputable def tIsx (i : Nat) (a : Addr) (b : Bool) : TE := fun σ H Q => tVar i σ H fun v H1 => v = .ref a ∧ Q (.bl b) H1
section
variable {X : Cx} {a C W : Addr} {oe : Obj} {Ds names : List Str} {D x : Str} {i : Nat} {p p1 p2 pos : Pos}
theorem pe_isx {K : PySem.W.Frag} {mg : Str → Option Value} (eK : X.K = K) (eM : X.mg = mg) (hp : (a, oe) ∈ X.pn) (hc : oe.cls = .ref C) (z : XPs K mg W Ds names C) (hD : D ∈ Ds) (hm : X.mg "isinstance" = none) (hg : Gl X "isinstance") (hgD : Gl X D) (he : PE X (.Name x p1) (tVar i))
    (hd : (D == ("__debug__" : Str)) = false := by decide) (hs : starEach [.Name x p1, .Name D p2] X.env = (false, eval (.Name x p1) X.env) :: starEach [.Name D p2] X.env := by rfl) (hpl : (backTo pos (starEach [.Name D p2] X.env)).any (·.1) = false := by rfl) :
    PE X (.Call (.Name "isinstance" p) [.Name x p1, .Name D p2] [] pos) (tIsx i a (isaB K mg C D)) := by
  subst eK eM
  obtain ⟨n, hn, z⟩ := z
  obtain ⟨d, hd1, hk⟩ := z.own D hD
  have e : PySem.W.kitOne X.K (.ref C) (.ref d) = some (isaB X.K X.mg C D) := by
    unfold isaB
    rw [hd1]
    show _ = some (PySem.W.kitOne X.K (.ref C) (.ref d) == some true)
    rw [hk]
    cases (decide (n = D)) <;> rfl
  have t := pe_callB (pos := pos) (p := p) (call_isx (X := X) hp hc z.cat.ex (c := .ref d) (u := .ref d) rfl (fun _ h => h) e) hg hm PyProof.Rows.boot_isinstance (pa_cons he (pa_cons (pe_glob (pos := p2) (v := .ref d) hgD hd1 rfl hd) pa_nil)) (by decide) (by decide) hs hpl
  intro pins s σ H Q I h
  refine t pins s σ H Q I ?_
  obtain ⟨v, h1, rfl, h2⟩ := h
  exact ⟨.ref a, h1, rfl, h2⟩
theorem pe_isv {K : PySem.W.Frag} {mg : Str → Option Value} (eK : X.K = K) (eM : X.mg = mg) (hp : (a, oe) ∈ X.pn) (hc : oe.cls = .ref C) (z : XPs K mg W Ds names C) (hm : X.mg "isinstance" = none) (hmv : X.mg "ValueError" = none) (hg : Gl X "isinstance") (hgD : Gl X "ValueError") (he : PE X (.Name x p1) (tVar i))
    (hs : starEach [.Name x p1, .Name "ValueError" p2] X.env = (false, eval (.Name x p1) X.env) :: starEach [.Name "ValueError" p2] X.env := by rfl) (hpl : (backTo pos (starEach [.Name "ValueError" p2] X.env)).any (·.1) = false := by rfl) :
    PE X (.Call (.Name "isinstance" p) [.Name x p1, .Name "ValueError" p2] [] pos) (tIsx i a true) := by
  subst eK eM
  obtain ⟨n, hn, z⟩ := z
  have t := pe_callB (pos := pos) (p := p) (call_isx (X := X) hp hc z.cat.ex (c := .ty "ValueError") (u := .type "ValueError") rfl (fun _ h => h) z.val) hg hm PyProof.Rows.boot_isinstance (pa_cons he (pa_cons (pe_ty (pos := p2) (x := "ValueError") hgD hmv PyProof.Rows.Boot.«ValueError») pa_nil)) (by decide) (by decide) hs hpl
  intro pins s σ H Q I h
  refine t pins s σ H Q I ?_
  obtain ⟨v, h1, rfl, h2⟩ := h
  exact ⟨.ref a, h1, rfl, h2⟩
end
noncomputable def rX (a : Addr) : Rp Str := fun _ _ v _ => v = .ref a
noncomputable instance (a : Addr) : ScaC (rX a) := ⟨fun _ _ _ _ _ h => h⟩
section
variable {K : PySem.W.Frag} {mg : Str → Option Value} {ks : List Kd} {α β γ δ ρ τ : Type} {rr : Rr ρ} {W : Addr} {Ds names : List Str}
theorem ev_isx {i : Nat} {a C : Addr} {n D : Str} (z : XPn K mg W Ds n C) (hD : D ∈ Ds) (h : ks[i]? = some (Kd.vis (rX a) n) := by rfl) : Ev K ks (tIsx i a (isaB K mg C D)) (vs rBool) (some (decide (n = D))) := fun y hy S σ H ad en Q k => by
  cases hy
  obtain ⟨o, h1, v, rfl, h2⟩ := en.get i _ h
  refine ⟨v, h1, h2, k _ H (Same.refl H) ?_⟩
  obtain ⟨d, hd1, hk⟩ := z.own D hD
  show V.bl _ = V.bl _
  congr 1
  unfold isaB
  rw [hd1]
  show (PySem.W.kitOne K (.ref C) (.ref d) == some true) = _
  rw [hk]
  cases (decide (n = D)) <;> rfl
theorem ev_isv {i : Nat} {a : Addr} {n : Str} (h : ks[i]? = some (Kd.vis (rX a) n) := by rfl) : Ev K ks (tIsx i a true) (vs rBool) (some true) := fun y hy S σ H ad en Q k => by
  cases hy
  obtain ⟨o, h1, v, rfl, h2⟩ := en.get i _ h
  exact ⟨v, h1, h2, k _ H (Same.refl H) rfl⟩
noncomputable def tryM {ρ τ : Type} (names : List Str) (m : Option (Fl ρ τ)) (x : Option Str) (h : Str → Option (Fl ρ Unit)) : Option (Fl ρ τ) := match m with
  | some o => some o
  | none => x.bind fun n => chk (n ∈ names) (Fl.rts (fin (h n)))
theorem StOk.setV {S0 : List Addr} {H0 Hm : Hp} {σ : St} {H : Hp} {i : Nat} {r : Rp α} [hr : StaC r] {x : α} {v : V} (h : StOk K S0 H0 Hm ks σ H) (hv : ∀ H', r K H' v x) : StOk K S0 H0 Hm (ks.set i (Kd.vis r x)) (σ.set i (some v)) H := by
  obtain ⟨S, s1, s2, s3, s4, s5, s6⟩ := id h
  refine ⟨S, s1, s2, s3, s4, s5.set (k := Kd.vis r x) ⟨v, rfl, hv _⟩, s6.weakS fun j k e o => ?_⟩
  obtain ⟨e1, e2⟩ := set_own e o
  exact ⟨e1, List.getElem?_set_ne e2⟩
theorem sj_try {i : Nat} {tb : (St → XK) → TS} {th : Addr → Addr → TS} {m : Option (Fl ρ τ)} {x : Option Str} {h : Str → Option (Fl ρ Unit)} {ks' : τ → List Kd} {kh : Unit → List Kd}
    (hb : ∀ E, SJ K ks (tb E) m ks' rr) (hx : ∀ E, SJX K mg E (some ks) ks (tb E) x) (hc : ∀ n ∈ names, ∃ C, XPn K mg W Ds n C)
    (hh : ∀ n C a, XPn K mg W Ds n C → SJ K (ks.set i (Kd.vis (rX a) n)) (th a C) (h n) kh rr) : SJ K ks (tTry (XPs K mg W Ds names) tb i th) (tryM names m x h) ks' rr := fun o ho S0 H0 Hm ad D σ H st n q => by
  cases m with
  | some o' => exact hb _ o ho S0 H0 Hm ad D σ H st n q
  | none =>
    obtain ⟨nm, hx1, ho⟩ := bind_some ho
    obtain ⟨hnm, ho⟩ := chk_some ho
    obtain ⟨y, hy, rfl⟩ := Option.map_eq_some_iff.mp ho
    obtain ⟨C, xp⟩ := hc nm hnm
    refine hx _ nm hx1 S0 H0 Hm ad D σ H st fun c σ' H' hc z => ?_
    rw [xp.mgn] at hc
    cases hc
    refine ⟨C, rfl, ⟨nm, hnm, xp⟩, fun a => ?_⟩
    obtain ⟨o1, ho1, hy⟩ := bind_some hy
    cases o1 with
    | nx s => cases hy
    | rt y' =>
      cases hy
      exact hh nm C a xp _ ho1 S0 H0 Hm ad _ _ H' (StOk.setV (r := rX a) (x := nm) z fun _ => rfl) (fun s e => by cases e) fun y e v H2 sm zz => by cases e; exact q y rfl v H2 sm zz
end
end L2

/-! Facts of own exception classes out of the fragment's deciders; several ways to raise. Own work. -/
namespace L2
open PySem PySem.Spec PyProof.Rows
theorem ExcK.cls {K : PySem.W.Frag} {C : Addr} (q : ExcK K C) : (PySem.W.clsIn K C).isSome = true := by
  revert q
  show PySem.W.excIn K C mroV "ValueError.__new__" = true → _
  unfold PySem.W.excIn PySem.W.clsIn
  intro q
  split at q
  · rename_i hl
    rw [hl]
    rfl
  · cases q
theorem kit_own {K : PySem.W.Frag} {C D : Addr} {b : Bool} (h1 : PySem.W.subIn K (.ref C) (.ref C) = some true) (h2 : PySem.W.subIn K (.ref C) (.ref D) = some b) (hd : ExcK K D) (ht : PySem.W.typeIn K (.ref D) = some (.type "type")) : PySem.W.kitOne K (.ref C) (.ref D) = some b := by
  unfold PySem.W.kitOne
  by_cases e : C = D
  · subst e
    rw [if_pos (by simp)]
    rw [h1] at h2
    exact h2
  · rw [if_neg (by simpa using e)]
    unfold PySem.W.kitCls
    show (if ((PySem.W.clsIn K D).isSome && PySem.W.typeIn K (.ref D) == some (.type "type")) = true then PySem.W.subIn K (.ref C) (.ref D) else none) = some b
    rw [hd.cls, ht, if_pos (by decide)]
    exact h2
theorem kit_val {K : PySem.W.Frag} {C : Addr} (h : PySem.W.subIn K (.ref C) (.type "ValueError") = some true) : PySem.W.kitOne K (.ref C) (.type "ValueError") = some true := by
  unfold PySem.W.kitOne
  rw [if_neg (by simp)]
  unfold PySem.W.kitCls
  show (if PySem.W.kitMeta "ValueError" = true then PySem.W.subIn K (.ref C) (.type "ValueError") else none) = some true
  rw [if_pos (by decide +kernel)]
  exact h
theorem al_nil {α : Type} {P : α → Prop} : ∀ x ∈ ([] : List α), P x := fun x h => by cases h
theorem al_cons {α : Type} {P : α → Prop} {a : α} {l : List α} (h1 : P a) (h2 : ∀ x ∈ l, P x) : ∀ x ∈ a :: l, P x := fun x h => by
  rcases List.mem_cons.mp h with rfl | h
  · exact h1
  · exact h2 x h
section
variable {K : PySem.W.Frag} {mg : Str → Option Value} {α β γ δ : Type} {us : List V} {H : Hp} {Q : VK} {E : XK}
theorem spx3_or {r1 : Rp α} {r2 : Rp β} {r3 : Rp γ} {f g : α → β → γ → Option Str} (h : spx3 r1 r2 r3 (fun x1 x2 x3 => (f x1 x2 x3).or (g x1 x2 x3)) K mg us H Q E) : spx3 r1 r2 r3 f K mg us H Q E ∨ spx3 r1 r2 r3 g K mg us H Q E := by
  obtain ⟨S, x1, x2, x3, v1, v2, v3, n, rfl, ad, z1, z2, z3, hy, q⟩ := h
  try dsimp only at hy
  cases e : f x1 x2 x3 with
  | some a =>
    rw [e] at hy
    exact .inl ⟨S, x1, x2, x3, v1, v2, v3, n, rfl, ad, z1, z2, z3, by rw [e]; exact hy, q⟩
  | none =>
    rw [e] at hy
    exact .inr ⟨S, x1, x2, x3, v1, v2, v3, n, rfl, ad, z1, z2, z3, hy, q⟩
theorem spx4_or {r1 : Rp α} {r2 : Rp β} {r3 : Rp γ} {r4 : Rp δ} {f g : α → β → γ → δ → Option Str} (h : spx4 r1 r2 r3 r4 (fun x1 x2 x3 x4 => (f x1 x2 x3 x4).or (g x1 x2 x3 x4)) K mg us H Q E) : spx4 r1 r2 r3 r4 f K mg us H Q E ∨ spx4 r1 r2 r3 r4 g K mg us H Q E := by
  obtain ⟨S, x1, x2, x3, x4, v1, v2, v3, v4, n, rfl, ad, z1, z2, z3, z4, hy, q⟩ := h
  try dsimp only at hy
  cases e : f x1 x2 x3 x4 with
  | some a =>
    rw [e] at hy
    exact .inl ⟨S, x1, x2, x3, x4, v1, v2, v3, v4, n, rfl, ad, z1, z2, z3, z4, by rw [e]; exact hy, q⟩
  | none =>
    rw [e] at hy
    exact .inr ⟨S, x1, x2, x3, x4, v1, v2, v3, v4, n, rfl, ad, z1, z2, z3, z4, hy, q⟩
end
end L2
namespace L2
open PySem PySem.Spec PyProof.Rows
theorem pass1S {P : Program} {w : World} {K : PySem.W.Frag} {mg : Str → Option Value} {base : Heap} {N : List Str} {qual : Str} {scope : Scope} {f : Addr} {cd : Value} {A : Around} {outer : List Env} {s : Shared} {H : Hp} {E : XK} :
    PassesS (CX1 P w) (cxOf (CX1 P w) P w K mg base N qual scope f cd A outer s H E) (fun _ => E) := pass1
end L2

/-! Lists that are no longer filled; is and is not of bools. Own work. -/
namespace L2
open PySem PySem.Spec PyProof.Rows
section
variable {K : PySem.W.Frag} {ks ks2 : List Kd} {ρ τ : Type} {rr : Rr ρ}
end
section
variable {X : Cx}
end
end L2

/-! xs.insert(i, x), xs.index(x); a value that is a bool, a list of numbers or None. Own work. -/
namespace L2
open PySem PySem.Spec PyProof.Rows
section
variable {X : Cx}
end
/-! typed -/
section
variable {K : PySem.W.Frag} {ks : List Kd} {α ρ : Type} {rr : Rr ρ}
/-- a bool, a list of numbers, or None -/
inductive UV
  | no
  | bo (b : Bool)
  | li (l : List Int)
noncomputable def rUV : Rp UV := fun K H v u => match u with
  | .no => v = .non
  | .bo b => v = .bl b
  | .li l => rL rInt K H v l
noncomputable instance : StaC rUV := ⟨fun K H H' v u e q => by
  cases u with
  | no => exact q
  | bo b => exact q
  | li l => exact (inferInstance : StaC (rL rInt)).sta _ _ _ _ _ e q⟩
end
end L2

/-! Raising in a loop's test, in a built-in's argument. Own work. -/
namespace L2
open PySem PySem.Spec PyProof.Rows
noncomputable def EvTX (K : PySem.W.Frag) (mg : Str → Option Value) (E : St → XK) (ks : List Kd) (t : TT) (m : Option Str) : Prop :=
  ∀ n, m = some n → ∀ (S : List Addr) (σ : St) (H : Hp), AdmL S H → EnvOk K S H ks σ → (∀ c H', mg n = some c → Same H H' → E σ c none H') → ∀ Q : Bool → Hp → Prop, t σ H Q
section
variable {K : PySem.W.Frag} {mg : Str → Option Value} {E : St → XK} {ks : List Kd} {kx : Option (List Kd)} {α β γ δ ρ τ : Type}
theorem evx_op {r : R2} {ta tb : TE} {m : Option Str} (h : EvX K mg E ks ta m) : EvX K mg E ks (tOp r ta tb) m := fun n hn S σ H ad en k Q => h n hn S σ H ad en k _
theorem evx_cb {r : List V → Hp → VK → Prop} {t : TA} {m : Option Str} (h : EaX K mg E ks t m) : EvX K mg E ks (tCB r t) m := fun n hn S σ H ad en k Q => h n hn S σ H ad en k _
theorem evtx_cmp {t : TE} {m : Option Str} (h : EvX K mg E ks t m) : EvTX K mg E ks (tTest t) m := fun n hn S σ H ad en k Q => h n hn S σ H ad en k _
theorem sjx_while {tc : TT} {tb : TS} {m : Option Str} (hc : EvTX K mg E ks tc m) (w : KX kx ks) : SJX K mg E kx ks (tWhile tc tb) m := fun n hn S0 H0 Hm ad D σ H st k => by
  obtain ⟨S, s1, s2, s3, s4, s5, s6⟩ := id st
  refine ⟨fun m σ' H' => m = 0 ∧ σ' = σ ∧ H' = H, ⟨0, rfl, rfl, rfl⟩, ?_⟩
  rintro m σ' H' ⟨rfl, rfl, rfl⟩
  exact hc n hn S σ' H' s2 s5 (fun c H1 hc e => k c σ' H1 hc ((StOk.on s1 s2 s3 s4 s5 s6 e).x w)) _
variable {r1 : Rp α} {r2 : Rp β} {r3 : Rp γ} {r4 : Rp δ} [StaC r1] [StaC r2] [StaC r3] [StaC r4] {N : List Str} {us : List V} {H : Hp} {Q : VK} {E0 : XK}
end
end L2

/-! Texts: walked, glued, read as numbers; range with a step of two. Own work. -/
namespace L2
open PySem PySem.Spec PyProof.Rows
section
variable {X : Cx} {tg : Expr}
end
section
variable {X : Cx} {tg : Expr}
end

/-! comprehensions over plain values -/
section
variable {K : PySem.W.Frag} {ks : List Kd} {α β : Type}
end
/-! text operations -/
section
variable {X : Cx}
end
section
variable {K : PySem.W.Frag} {ks : List Kd} {α β : Type}
end
end L2

/-! A pair that holds a new list; that list changed by the asker. Own work. -/
namespace L2
open PySem PySem.Spec PyProof.Rows
section
variable {K : PySem.W.Frag} {ks : List Kd} {ρ τ : Type} {rr : Rr ρ}
end
end L2
namespace L2
end L2

/-! Texts cut, split, by place. Own work. -/
namespace L2
open PySem PySem.Spec PyProof.Rows
section
variable {X : Cx}
end
end L2
namespace L2
open PySem PySem.Spec PyProof.Rows
section
variable {K : PySem.W.Frag} {ks : List Kd} {α β : Type}
end
end L2
namespace L2
open PySem PySem.Spec PyProof.Rows
section
variable {X : Cx}
end
section
variable {K : PySem.W.Frag} {ks : List Kd}
end
end L2

/-! A written list of texts at once. Own work. -/
namespace L2
open PySem PySem.Spec PyProof.Rows
section
variable {X : Cx}
end
section
variable {K : PySem.W.Frag} {ks : List Kd}
end
end L2

/-! Lists of a given length. Own work. -/
namespace L2
section
variable {α : Type} {P : List α → Prop}
theorem us0 (h : P []) : ∀ us : List α, us.length = 0 → P us := fun us e => by
  cases us with
  | nil => exact h
  | cons a us => cases e
theorem us1 (h : ∀ a, P [a]) : ∀ us : List α, us.length = 1 → P us := fun us e => by
  cases us with
  | nil => cases e
  | cons a us => exact us0 (P := fun l => P (a :: l)) (h a) us (Nat.succ.inj e)
theorem us2 (h : ∀ a b, P [a, b]) : ∀ us : List α, us.length = 2 → P us := fun us e => by
  cases us with
  | nil => cases e
  | cons a us => exact us1 (P := fun l => P (a :: l)) (h a) us (Nat.succ.inj e)
theorem us3 (h : ∀ a b c, P [a, b, c]) : ∀ us : List α, us.length = 3 → P us := fun us e => by
  cases us with
  | nil => cases e
  | cons a us => exact us2 (P := fun l => P (a :: l)) (h a) us (Nat.succ.inj e)
theorem us4 (h : ∀ a b c d, P [a, b, c, d]) : ∀ us : List α, us.length = 4 → P us := fun us e => by
  cases us with
  | nil => cases e
  | cons a us => exact us3 (P := fun l => P (a :: l)) (h a) us (Nat.succ.inj e)
end
open PySem in
/-- a def of the program, as it lies in the part that is written out -/
theorem at_mk {K : PySem.W.Frag} {h : Heap} {mg : Str → Option Value} {x : Str} {st : Stmt} {ps : List Str} {f : Addr} {oc : Value} {od an : Option Addr} {osl : Array (Option Value)} {kV doc pm cdv ct : Value} (X : K.In h) (G : h.Ns mainGlobals mg)
    (a : PySem.W.nsIn K mainGlobals x = some (some (.ref f))) (l : K.lookup f = some ⟨oc, od, .func (PySem.W.fnOf x x (defArgs st) (defBody st) (defScope st) .none kV doc pm an cdv ct), osl⟩) (c : PySem.W.codeIn K cdv x = true) (k : PySem.W.keepIn K (.ref f) = true)
    (hb : ∀ (kV doc pm : Value) (an : Option Addr) (cdv ct : Value) (us : List Value), us.length = ps.length → bindArgs (PySem.W.fnOf x x (defArgs st) (defBody st) (defScope st) .none kV doc pm an cdv ct) ⟨us, []⟩ = pure (ps.zip us)) : At K mg x st ps := ⟨_, _, fun_mk l c k, (fun_mk l c k).binds hb, PySem.W.mg_of X G a⟩
end L2

/-! One way of raising or the other, without a name for what is left. Own work. -/
namespace L2
open PySem
section
variable {K : PySem.W.Frag} {mg : Str → Option Value} {α β γ δ : Type} {us : List V} {H : Hp} {Q : VK} {E : XK} {C : Prop}
theorem spx3_el {r1 : Rp α} {r2 : Rp β} {r3 : Rp γ} {f g : α → β → γ → Option Str} (a : spx3 r1 r2 r3 f K mg us H Q E → C) (b : spx3 r1 r2 r3 g K mg us H Q E → C) (h : spx3 r1 r2 r3 (fun x1 x2 x3 => (f x1 x2 x3).or (g x1 x2 x3)) K mg us H Q E) : C := (spx3_or h).elim a b
theorem spx4_el {r1 : Rp α} {r2 : Rp β} {r3 : Rp γ} {r4 : Rp δ} {f g : α → β → γ → δ → Option Str} (a : spx4 r1 r2 r3 r4 f K mg us H Q E → C) (b : spx4 r1 r2 r3 r4 g K mg us H Q E → C) (h : spx4 r1 r2 r3 r4 (fun x1 x2 x3 x4 => (f x1 x2 x3 x4).or (g x1 x2 x3 x4)) K mg us H Q E) : C := (spx4_or h).elim a b
end
end L2

set_option maxHeartbeats 4000000
namespace Toy
open PySem L2
noncomputable def b_ties_join_points (v_points : Int) (v_ties : (List (Int × Int))) : Option (Fl Bool Unit) :=
((Fl.rts (B1 (fun l => some (l.all id)) (B1 (compL (fun (x1 : (Int × Int)) => (some true)) (fun (x1 : (Int × Int)) => (BAnd (B2 (fun i j => some (decide (i ≤ j))) (some (0 : Int)) (some x1.1)) (BAnd (B2 (fun i j => some (decide (i < j))) (some x1.1) (some x1.2)) (B2 (fun i j => some (decide (i < j))) (some x1.2) (some v_points)))))) (some v_ties)))) : Option (Fl Bool Unit))
noncomputable def m_ties_join_points (v_points : Int) (v_ties : (List (Int × Int))) : Option Bool := fin (b_ties_join_points v_points v_ties)
noncomputable def b_ties_rise (v_ties : (List (Int × Int))) : Option (Fl Bool Unit) :=
((Fl.rts (B1 (fun l => some (l.all id)) (B1 (compL (fun (x1 : Int) => (some true)) (fun (x1 : Int) => (B2 (fun p q => some (ltP p q)) (B2 atI (some v_ties) (B2 (fun i j => some (i - j)) (some x1) (some (1 : Int)))) (B2 atI (some v_ties) (some x1))))) (B2 range2 (some (1 : Int)) (B1 (fun l => some (l.length : Int)) (some v_ties)))))) : Option (Fl Bool Unit))
noncomputable def m_ties_rise (v_ties : (List (Int × Int))) : Option Bool := fin (b_ties_rise v_ties)
noncomputable def b_is_web (v_points : Int) (v_ties : (List (Int × Int))) : Option (Fl Bool Unit) :=
(Fl.sq ((BIf (BOr (B2 (fun i j => some (decide (i < j))) (some v_points) (some (0 : Int))) (BOr (B2 (fun i j => some (decide (j < i))) (some v_points) (some (7 : Int))) (B2 (fun i j => some (decide (j < i))) (B1 (fun l => some (l.length : Int)) (some v_ties)) (some (12 : Int)))))
((Fl.rts (some false)) : Option (Fl Bool Unit))
(some (Fl.nx ()))) : Option (Fl Bool Unit)) fun (s1 : Unit) =>
((Fl.rts (BAnd (B2 m_ties_join_points (some v_points) (some v_ties)) (B1 m_ties_rise (some v_ties)))) : Option (Fl Bool Unit)))
noncomputable def m_is_web (v_points : Int) (v_ties : (List (Int × Int))) : Option Bool := fin (b_is_web v_points v_ties)
noncomputable def b_refuse_no_web (v_points : Int) (v_ties : (List (Int × Int))) : Option (Fl Unit Unit) :=
(Fl.mp (fun (s1 : Unit) => (() : Unit))
((BIf (BNot (B2 m_is_web (some v_points) (some v_ties)))
(none : Option (Fl Unit Unit))
(some (Fl.nx ()))) : Option (Fl Unit Unit)))
noncomputable def m_refuse_no_web (v_points : Int) (v_ties : (List (Int × Int))) : Option Unit := finU (b_refuse_no_web v_points v_ties)
noncomputable def x_refuse_no_web_0 (v_points : Int) (v_ties : (List (Int × Int))) : Option Str :=
(BIf (BNot (B2 m_is_web (some v_points) (some v_ties)))
(some ("NoWeb" : Str))
none)
noncomputable def x_refuse_no_web (v_points : Int) (v_ties : (List (Int × Int))) : Option Str := (x_refuse_no_web_0 v_points v_ties)
noncomputable def b_cut (v_points : Int) (v_ties : (List (Int × Int))) (v_tie : (Int × Int)) : Option (Fl (List (Int × Int)) Unit) :=
none
noncomputable def m_cut (v_points : Int) (v_ties : (List (Int × Int))) (v_tie : (Int × Int)) : Option (List (Int × Int)) := fin (b_cut v_points v_ties v_tie)
noncomputable def x_cut_0 (v_points : Int) (v_ties : (List (Int × Int))) (v_tie : (Int × Int)) : Option Str :=
(B2 x_refuse_no_web (some v_points) (some v_ties))
noncomputable def x_cut (v_points : Int) (v_ties : (List (Int × Int))) (v_tie : (Int × Int)) : Option Str := (x_cut_0 v_points v_ties v_tie)
noncomputable def b_merged (v_points : Int) (v_ties : (List (Int × Int))) (v_tie : (Int × Int)) : Option (Fl (List (Int × Int)) Unit) :=
none
noncomputable def m_merged (v_points : Int) (v_ties : (List (Int × Int))) (v_tie : (Int × Int)) : Option (List (Int × Int)) := fin (b_merged v_points v_ties v_tie)
noncomputable def x_merged_0 (v_points : Int) (v_ties : (List (Int × Int))) (v_tie : (Int × Int)) : Option Str :=
(B2 x_refuse_no_web (some v_points) (some v_ties))
noncomputable def x_merged (v_points : Int) (v_ties : (List (Int × Int))) (v_tie : (Int × Int)) : Option Str := (x_merged_0 v_points v_ties v_tie)
noncomputable def b_pieces (v_points : Int) (v_ties : (List (Int × Int))) : Option (Fl (List (List Int)) Unit) :=
none
noncomputable def m_pieces (v_points : Int) (v_ties : (List (Int × Int))) : Option (List (List Int)) := fin (b_pieces v_points v_ties)
noncomputable def x_pieces_0 (v_points : Int) (v_ties : (List (Int × Int))) : Option Str :=
(B2 x_refuse_no_web (some v_points) (some v_ties))
noncomputable def x_pieces (v_points : Int) (v_ties : (List (Int × Int))) : Option Str := (x_pieces_0 v_points v_ties)
noncomputable def b_beside (v_points : Int) (v_ties : (List (Int × Int))) (v_more : Int) (v_others : (List (Int × Int))) : Option (Fl (List (Int × Int)) Unit) :=
none
noncomputable def m_beside (v_points : Int) (v_ties : (List (Int × Int))) (v_more : Int) (v_others : (List (Int × Int))) : Option (List (Int × Int)) := fin (b_beside v_points v_ties v_more v_others)
noncomputable def x_beside_0 (v_points : Int) (v_ties : (List (Int × Int))) (v_more : Int) (v_others : (List (Int × Int))) : Option Str :=
(B2 x_refuse_no_web (some v_points) (some v_ties))
noncomputable def x_beside_1 (v_points : Int) (v_ties : (List (Int × Int))) (v_more : Int) (v_others : (List (Int × Int))) : Option Str :=
(sqX ((Fl.nxs ((B2 m_refuse_no_web (some v_points) (some v_ties)).map fun _ => ())) : Option (Fl (List (Int × Int)) Unit)) fun (u2 : Unit) =>
(B2 x_refuse_no_web (some v_more) (some v_others)))
noncomputable def x_beside (v_points : Int) (v_ties : (List (Int × Int))) (v_more : Int) (v_others : (List (Int × Int))) : Option Str := (Option.or (x_beside_0 v_points v_ties v_more v_others) (x_beside_1 v_points v_ties v_more v_others))
noncomputable def b_is_dyeing (v_points : Int) (v_ties : (List (Int × Int))) (v_dyes : (List Int)) (v_many : Int) : Option (Fl Bool Unit) :=
none
noncomputable def m_is_dyeing (v_points : Int) (v_ties : (List (Int × Int))) (v_dyes : (List Int)) (v_many : Int) : Option Bool := fin (b_is_dyeing v_points v_ties v_dyes v_many)
noncomputable def x_is_dyeing_0 (v_points : Int) (v_ties : (List (Int × Int))) (v_dyes : (List Int)) (v_many : Int) : Option Str :=
(B2 x_refuse_no_web (some v_points) (some v_ties))
noncomputable def x_is_dyeing (v_points : Int) (v_ties : (List (Int × Int))) (v_dyes : (List Int)) (v_many : Int) : Option Str := (x_is_dyeing_0 v_points v_ties v_dyes v_many)
noncomputable def b_least (v_points : Int) (v_ties : (List (Int × Int))) (v_many : Int) : Option (Fl (Option (List Int)) Unit) :=
none
noncomputable def m_least (v_points : Int) (v_ties : (List (Int × Int))) (v_many : Int) : Option (Option (List Int)) := fin (b_least v_points v_ties v_many)
noncomputable def x_least_0 (v_points : Int) (v_ties : (List (Int × Int))) (v_many : Int) : Option Str :=
(B2 x_refuse_no_web (some v_points) (some v_ties))
noncomputable def x_least (v_points : Int) (v_ties : (List (Int × Int))) (v_many : Int) : Option Str := (x_least_0 v_points v_ties v_many)
noncomputable def b_fewest (v_points : Int) (v_ties : (List (Int × Int))) : Option (Fl Int Unit) :=
none
noncomputable def m_fewest (v_points : Int) (v_ties : (List (Int × Int))) : Option Int := fin (b_fewest v_points v_ties)
noncomputable def x_fewest_0 (v_points : Int) (v_ties : (List (Int × Int))) : Option Str :=
(sqX ((Fl.nxs (some (0 : Int))) : Option (Fl Int Int)) fun (v_many_2 : Int) =>
(B3 x_least (some v_points) (some v_ties) (some v_many_2)))
noncomputable def x_fewest (v_points : Int) (v_ties : (List (Int × Int))) : Option Str := (x_fewest_0 v_points v_ties)
noncomputable def b_refuse_no_setting (v_points : Int) (v_ties : (List (Int × Int))) (v_arrows : (List Bool)) : Option (Fl Unit Unit) :=
none
noncomputable def m_refuse_no_setting (v_points : Int) (v_ties : (List (Int × Int))) (v_arrows : (List Bool)) : Option Unit := finU (b_refuse_no_setting v_points v_ties v_arrows)
noncomputable def x_refuse_no_setting_0 (v_points : Int) (v_ties : (List (Int × Int))) (v_arrows : (List Bool)) : Option Str :=
(B2 x_refuse_no_web (some v_points) (some v_ties))
noncomputable def x_refuse_no_setting (v_points : Int) (v_ties : (List (Int × Int))) (v_arrows : (List Bool)) : Option Str := (x_refuse_no_setting_0 v_points v_ties v_arrows)
noncomputable def b_goes_round (v_points : Int) (v_ties : (List (Int × Int))) (v_arrows : (List Bool)) : Option (Fl Bool Unit) :=
none
noncomputable def m_goes_round (v_points : Int) (v_ties : (List (Int × Int))) (v_arrows : (List Bool)) : Option Bool := fin (b_goes_round v_points v_ties v_arrows)
noncomputable def x_goes_round_0 (v_points : Int) (v_ties : (List (Int × Int))) (v_arrows : (List Bool)) : Option Str :=
(B3 x_refuse_no_setting (some v_points) (some v_ties) (some v_arrows))
noncomputable def x_goes_round (v_points : Int) (v_ties : (List (Int × Int))) (v_arrows : (List Bool)) : Option Str := (x_goes_round_0 v_points v_ties v_arrows)
noncomputable def b_ranks (v_points : Int) (v_ties : (List (Int × Int))) (v_arrows : (List Bool)) : Option (Fl (List Int) Unit) :=
none
noncomputable def m_ranks (v_points : Int) (v_ties : (List (Int × Int))) (v_arrows : (List Bool)) : Option (List Int) := fin (b_ranks v_points v_ties v_arrows)
noncomputable def x_ranks_0 (v_points : Int) (v_ties : (List (Int × Int))) (v_arrows : (List Bool)) : Option Str :=
(B3 x_refuse_no_setting (some v_points) (some v_ties) (some v_arrows))
noncomputable def x_ranks (v_points : Int) (v_ties : (List (Int × Int))) (v_arrows : (List Bool)) : Option Str := (x_ranks_0 v_points v_ties v_arrows)
noncomputable def b_setting_of (v_points : Int) (v_ties : (List (Int × Int))) (v_dyes : (List Int)) : Option (Fl (List Bool) Unit) :=
none
noncomputable def m_setting_of (v_points : Int) (v_ties : (List (Int × Int))) (v_dyes : (List Int)) : Option (List Bool) := fin (b_setting_of v_points v_ties v_dyes)
noncomputable def x_setting_of_0 (v_points : Int) (v_ties : (List (Int × Int))) (v_dyes : (List Int)) : Option Str :=
(B2 x_refuse_no_web (some v_points) (some v_ties))
noncomputable def x_setting_of (v_points : Int) (v_ties : (List (Int × Int))) (v_dyes : (List Int)) : Option Str := (x_setting_of_0 v_points v_ties v_dyes)
noncomputable def b_flattest (v_points : Int) (v_ties : (List (Int × Int))) : Option (Fl (List Bool) Unit) :=
none
noncomputable def m_flattest (v_points : Int) (v_ties : (List (Int × Int))) : Option (List Bool) := fin (b_flattest v_points v_ties)
noncomputable def x_flattest_0 (v_points : Int) (v_ties : (List (Int × Int))) : Option Str :=
(B1 (fun _ => (B1 (fun _ => (B1 (fun _ => (B1 (fun _ => (B2 x_fewest (some v_points) (some v_ties))) (some v_ties))) (some v_points))) (some v_ties))) (some v_points))
noncomputable def x_flattest (v_points : Int) (v_ties : (List (Int × Int))) : Option Str := (x_flattest_0 v_points v_ties)
noncomputable def b_row (v_points : Int) (v_ties : (List (Int × Int))) : Option (Fl (List Int) Unit) :=
none
noncomputable def m_row (v_points : Int) (v_ties : (List (Int × Int))) : Option (List Int) := fin (b_row v_points v_ties)
noncomputable def x_row_0 (v_points : Int) (v_ties : (List (Int × Int))) : Option Str :=
(B2 x_refuse_no_web (some v_points) (some v_ties))
noncomputable def x_row (v_points : Int) (v_ties : (List (Int × Int))) : Option Str := (x_row_0 v_points v_ties)
noncomputable def b_worth (v_numbers : (List Int)) (v_q : Int) : Option (Fl Int Unit) :=
none
noncomputable def m_worth (v_numbers : (List Int)) (v_q : Int) : Option Int := fin (b_worth v_numbers v_q)
noncomputable def b_settings (v_points : Int) (v_ties : (List (Int × Int))) : Option (Fl Int Unit) :=
none
noncomputable def m_settings (v_points : Int) (v_ties : (List (Int × Int))) : Option Int := fin (b_settings v_points v_ties)
noncomputable def x_settings_0 (v_points : Int) (v_ties : (List (Int × Int))) : Option Str :=
(B2 x_row (some v_points) (some v_ties))
noncomputable def x_settings (v_points : Int) (v_ties : (List (Int × Int))) : Option Str := (x_settings_0 v_points v_ties)
noncomputable def b_from_spring (v_points : Int) (v_ties : (List (Int × Int))) (v_point : Int) : Option (Fl Int Unit) :=
none
noncomputable def m_from_spring (v_points : Int) (v_ties : (List (Int × Int))) (v_point : Int) : Option Int := fin (b_from_spring v_points v_ties v_point)
noncomputable def x_from_spring_0 (v_points : Int) (v_ties : (List (Int × Int))) (v_point : Int) : Option Str :=
(B2 x_row (some v_points) (some v_ties))
noncomputable def x_from_spring (v_points : Int) (v_ties : (List (Int × Int))) (v_point : Int) : Option Str := (x_from_spring_0 v_points v_ties v_point)
noncomputable def b_pairs (v_points : Int) (v_ties : (List (Int × Int))) (v_q : Int) : Option (Fl Int Unit) :=
none
noncomputable def m_pairs (v_points : Int) (v_ties : (List (Int × Int))) (v_q : Int) : Option Int := fin (b_pairs v_points v_ties v_q)
noncomputable def x_pairs_0 (v_points : Int) (v_ties : (List (Int × Int))) (v_q : Int) : Option Str :=
(B2 x_row (some v_points) (some v_ties))
noncomputable def x_pairs (v_points : Int) (v_ties : (List (Int × Int))) (v_q : Int) : Option Str := (x_pairs_0 v_points v_ties v_q)
noncomputable def b_unbroken (v_points : Int) (v_ties : (List (Int × Int))) (v_many : Int) : Option (Fl Int Unit) :=
none
noncomputable def m_unbroken (v_points : Int) (v_ties : (List (Int × Int))) (v_many : Int) : Option Int := fin (b_unbroken v_points v_ties v_many)
noncomputable def x_unbroken_0 (v_points : Int) (v_ties : (List (Int × Int))) (v_many : Int) : Option Str :=
(B2 x_row (some v_points) (some v_ties))
noncomputable def x_unbroken (v_points : Int) (v_ties : (List (Int × Int))) (v_many : Int) : Option Str := (x_unbroken_0 v_points v_ties v_many)
noncomputable def b_shown (v_points : Int) (v_ties : (List (Int × Int))) : Option (Fl Str Unit) :=
none
noncomputable def m_shown (v_points : Int) (v_ties : (List (Int × Int))) : Option Str := fin (b_shown v_points v_ties)
noncomputable def x_shown_0 (v_points : Int) (v_ties : (List (Int × Int))) : Option Str :=
(B2 x_refuse_no_web (some v_points) (some v_ties))
noncomputable def x_shown (v_points : Int) (v_ties : (List (Int × Int))) : Option Str := (x_shown_0 v_points v_ties)
noncomputable def b__law_cell_at (v_script : (List Int)) (v_k : Int) : Option (Fl Int Unit) :=
(Fl.sq ((BIf (B2 (fun i j => some (decide (i < j))) (some v_k) (B1 (fun l => some (l.length : Int)) (some v_script)))
((Fl.rts (B2 atI (some v_script) (some v_k))) : Option (Fl Int Unit))
(some (Fl.nx ()))) : Option (Fl Int Unit)) fun (s1 : Unit) =>
((Fl.rts (some (0 : Int))) : Option (Fl Int Unit)))
noncomputable def m__law_cell_at (v_script : (List Int)) (v_k : Int) : Option Int := fin (b__law_cell_at v_script v_k)
noncomputable def b__law_next (v_seed : Int) : Option (Fl Int Unit) :=
((Fl.rts (B2 modM (B2 (fun i j => some (i + j)) (B2 mulM (some v_seed) (some (48271 : Int))) (some (12345 : Int))) (some (2147483647 : Int)))) : Option (Fl Int Unit))
noncomputable def m__law_next (v_seed : Int) : Option Int := fin (b__law_next v_seed)
noncomputable def b__law_web_by (v_script : (List Int)) (v_k : Int) (v_most : Int) (v_cap : Int) : Option (Fl (Int × (List (Int × Int))) Unit) :=
(Fl.sq ((Fl.nxs (B2 modM (B2 m__law_cell_at (some v_script) (some v_k)) (B2 (fun i j => some (i + j)) (some v_most) (some (1 : Int))))) : Option (Fl (Int × (List (Int × Int))) Int)) fun (v_points_1 : Int) =>
(Fl.sq ((Fl.nxs (B1 m__law_next (B2 m__law_cell_at (some v_script) (B2 (fun i j => some (i + j)) (some v_k) (some (1 : Int)))))) : Option (Fl (Int × (List (Int × Int))) Int)) fun (v_seed_2 : Int) =>
(Fl.sq ((Fl.nxs (B2 (fun i j => some (i + j)) (some (1 : Int)) (B2 modM (B2 m__law_cell_at (some v_script) (B2 (fun i j => some (i + j)) (some v_k) (some (2 : Int)))) (some (4 : Int))))) : Option (Fl (Int × (List (Int × Int))) Int)) fun (v_thick_3 : Int) =>
(Fl.sq ((Fl.nxs (some ([] : List (Int × Int)))) : Option (Fl (Int × (List (Int × Int))) (List (Int × Int)))) fun (v_ties_4 : (List (Int × Int))) =>
(Fl.sq (((B1 range1 (some v_points_1)).bind fun l => forM (fun (x6 : Int) (s5 : (Int × (List (Int × Int)))) =>
(Fl.mp (fun (s12 : (Int × (List (Int × Int)))) => ((s12.1, s12.2) : (Int × (List (Int × Int)))))
(((B2 range2 (B2 (fun i j => some (i + j)) (some x6) (some (1 : Int))) (some v_points_1)).bind fun l => forM (fun (x8 : Int) (s7 : (Int × (List (Int × Int)))) =>
(Fl.sq ((BIf (BAnd (B2 (fun i j => some (decide (i < j))) (B2 modM (B2 divM (some s7.1) (some (16 : Int))) (some (4 : Int))) (some v_thick_3)) (B2 (fun i j => some (decide (i < j))) (B1 (fun l => some (l.length : Int)) (some s7.2)) (some v_cap)))
(Fl.mp (fun (v_ties_10 : (List (Int × Int))) => (v_ties_10 : ((List (Int × Int)))))
((Fl.nxs ((B2 (fun a b => some (a, b)) (some x6) (some x8)).bind fun x => pushM s7.2 x)) : Option (Fl (Int × (List (Int × Int))) (List (Int × Int)))))
(some (Fl.nx s7.2))) : Option (Fl (Int × (List (Int × Int))) ((List (Int × Int))))) fun (s9 : ((List (Int × Int)))) =>
(Fl.mp (fun (v_seed_11 : Int) => ((v_seed_11, s9) : (Int × (List (Int × Int)))))
((Fl.nxs (B1 m__law_next (some s7.1))) : Option (Fl (Int × (List (Int × Int))) Int))))) l (s5.1, s5.2)) : Option (Fl (Int × (List (Int × Int))) (Int × (List (Int × Int))))))) l (v_seed_2, v_ties_4)) : Option (Fl (Int × (List (Int × Int))) (Int × (List (Int × Int))))) fun (s13 : (Int × (List (Int × Int)))) =>
((Fl.rts (B2 (fun a b => some (a, b)) (some v_points_1) (some s13.2))) : Option (Fl (Int × (List (Int × Int))) Unit)))))))
noncomputable def m__law_web_by (v_script : (List Int)) (v_k : Int) (v_most : Int) (v_cap : Int) : Option (Int × (List (Int × Int))) := fin (b__law_web_by v_script v_k v_most v_cap)
noncomputable def b__law_spoilt (v_ties : (List (Int × Int))) (v_way : Int) (v_cell : Int) : Option (Fl (List (Int × Int)) Unit) :=
(Fl.sq ((Fl.nxs (B2 modM (some v_cell) (B1 (fun l => some (l.length : Int)) (some v_ties)))) : Option (Fl (List (Int × Int)) Int)) fun (v_at_1 : Int) =>
(Fl.sq ((Fl.nxs (B2 atI (B2 (fun a l => some (a :: l)) (B2 (fun a b => some (a, b)) (B1 (fun i => some (-i)) (some (1 : Int))) ((B2 atI (some v_ties) (some v_at_1)).map Prod.snd)) (B2 (fun a l => some (a :: l)) (B2 (fun a b => some (a, b)) ((B2 atI (some v_ties) (some v_at_1)).map Prod.fst) (B2 (fun i j => some (i + j)) (some (7 : Int)) (B2 modM (B2 divM (some v_cell) (some (64 : Int))) (some (90 : Int))))) (B2 (fun a l => some (a :: l)) (B2 (fun a b => some (a, b)) ((B2 atI (some v_ties) (some v_at_1)).map Prod.fst) ((B2 atI (some v_ties) (some v_at_1)).map Prod.fst)) (some [])))) (B2 modM (B2 divM (some v_cell) (some (16 : Int))) (some (3 : Int))))) : Option (Fl (List (Int × Int)) (Int × Int))) fun (v_bad_2 : (Int × Int)) =>
(Fl.sq ((BIf (B2 (fun i j => some (decide (i = j))) (some v_way) (some (0 : Int)))
((Fl.rts (B2 catM (B2 catM (B3 (fun l a b => some (cutA l a b)) (some v_ties) (some none) ((some v_at_1).map some)) (B2 (fun a l => some (a :: l)) (B2 atI (some v_ties) (some v_at_1)) (some []))) (B3 (fun l a b => some (cutA l a b)) (some v_ties) ((some v_at_1).map some) (some none)))) : Option (Fl (List (Int × Int)) Unit))
(some (Fl.nx ()))) : Option (Fl (List (Int × Int)) Unit)) fun (s3 : Unit) =>
(Fl.sq ((BIf (B2 (fun i j => some (decide (i = j))) (some v_way) (some (1 : Int)))
((Fl.rts (B2 catM (B2 catM (B3 (fun l a b => some (cutA l a b)) (some v_ties) (some none) ((some v_at_1).map some)) (B2 (fun a l => some (a :: l)) (B2 (fun a b => some (a, b)) ((B2 atI (some v_ties) (some v_at_1)).map Prod.snd) ((B2 atI (some v_ties) (some v_at_1)).map Prod.fst)) (some []))) (B3 (fun l a b => some (cutA l a b)) (some v_ties) ((B2 (fun i j => some (i + j)) (some v_at_1) (some (1 : Int))).map some) (some none)))) : Option (Fl (List (Int × Int)) Unit))
(some (Fl.nx ()))) : Option (Fl (List (Int × Int)) Unit)) fun (s4 : Unit) =>
(Fl.sq ((BIf (B2 (fun i j => some (decide (i = j))) (some v_way) (some (2 : Int)))
((Fl.rts (B2 catM (B2 catM (B3 (fun l a b => some (cutA l a b)) (some v_ties) (some none) ((some v_at_1).map some)) (B2 (fun a l => some (a :: l)) (some v_bad_2) (some []))) (B3 (fun l a b => some (cutA l a b)) (some v_ties) ((B2 (fun i j => some (i + j)) (some v_at_1) (some (1 : Int))).map some) (some none)))) : Option (Fl (List (Int × Int)) Unit))
(some (Fl.nx ()))) : Option (Fl (List (Int × Int)) Unit)) fun (s5 : Unit) =>
(Fl.sq ((BIf (B2 (fun i j => some (decide (i = j))) (some v_way) (some (3 : Int)))
((Fl.rts (B2 catM (some v_ties) (some v_ties))) : Option (Fl (List (Int × Int)) Unit))
(some (Fl.nx ()))) : Option (Fl (List (Int × Int)) Unit)) fun (s6 : Unit) =>
((Fl.rts (B2 catM (B2 revM (some v_ties) (B1 (fun i => some (-i)) (some (1 : Int)))) (B3 (fun l a b => some (cutA l a b)) (some v_ties) (some none) ((some (1 : Int)).map some)))) : Option (Fl (List (Int × Int)) Unit))))))))
noncomputable def m__law_spoilt (v_ties : (List (Int × Int))) (v_way : Int) (v_cell : Int) : Option (List (Int × Int)) := fin (b__law_spoilt v_ties v_way v_cell)
noncomputable def b__law_first_eight (v_which : Int) (v_points : Int) (v_ties : (List (Int × Int))) : Option (Fl Unit Unit) :=
(Fl.sq ((BIf (B2 (fun i j => some (decide (i = j))) (some v_which) (some (0 : Int)))
(Fl.mp (fun (u16 : Unit) => (() : Unit))
((Fl.nxs ((B2 m_pieces (some v_points) (some v_ties)).map fun _ => ())) : Option (Fl Unit Unit)))
(some (Fl.nx ()))) : Option (Fl Unit Unit)) fun (s15 : Unit) =>
(Fl.sq ((BIf (B2 (fun i j => some (decide (i = j))) (some v_which) (some (1 : Int)))
(Fl.mp (fun (u18 : Unit) => (() : Unit))
((Fl.nxs ((B4 m_beside (some v_points) (some v_ties) (some (0 : Int)) (some ([] : List (Int × Int)))).map fun _ => ())) : Option (Fl Unit Unit)))
(some (Fl.nx ()))) : Option (Fl Unit Unit)) fun (s17 : Unit) =>
(Fl.sq ((BIf (B2 (fun i j => some (decide (i = j))) (some v_which) (some (2 : Int)))
(Fl.mp (fun (u20 : Unit) => (() : Unit))
((Fl.nxs ((B4 m_beside (some (0 : Int)) (some ([] : List (Int × Int))) (some v_points) (some v_ties)).map fun _ => ())) : Option (Fl Unit Unit)))
(some (Fl.nx ()))) : Option (Fl Unit Unit)) fun (s19 : Unit) =>
(Fl.sq ((BIf (B2 (fun i j => some (decide (i = j))) (some v_which) (some (3 : Int)))
(Fl.mp (fun (u22 : Unit) => (() : Unit))
((Fl.nxs ((B2 m_row (some v_points) (some v_ties)).map fun _ => ())) : Option (Fl Unit Unit)))
(some (Fl.nx ()))) : Option (Fl Unit Unit)) fun (s21 : Unit) =>
(Fl.sq ((BIf (B2 (fun i j => some (decide (i = j))) (some v_which) (some (4 : Int)))
(Fl.mp (fun (u24 : Unit) => (() : Unit))
((Fl.nxs ((B4 m_is_dyeing (some v_points) (some v_ties) (B2 (fun a l => some (a :: l)) (some (0 : Int)) (some [])) (some (3 : Int))).map fun _ => ())) : Option (Fl Unit Unit)))
(some (Fl.nx ()))) : Option (Fl Unit Unit)) fun (s23 : Unit) =>
(Fl.sq ((BIf (B2 (fun i j => some (decide (i = j))) (some v_which) (some (5 : Int)))
(Fl.mp (fun (u26 : Unit) => (() : Unit))
((Fl.nxs ((B2 m_fewest (some v_points) (some v_ties)).map fun _ => ())) : Option (Fl Unit Unit)))
(some (Fl.nx ()))) : Option (Fl Unit Unit)) fun (s25 : Unit) =>
(Fl.sq ((BIf (B2 (fun i j => some (decide (i = j))) (some v_which) (some (6 : Int)))
(Fl.mp (fun (u28 : Unit) => (() : Unit))
((Fl.nxs ((B3 m_least (some v_points) (some v_ties) (some (2 : Int))).map fun _ => ())) : Option (Fl Unit Unit)))
(some (Fl.nx ()))) : Option (Fl Unit Unit)) fun (s27 : Unit) =>
(Fl.mp (fun (s29 : Unit) => (() : Unit))
((BIf (B2 (fun i j => some (decide (i = j))) (some v_which) (some (7 : Int)))
(Fl.mp (fun (u30 : Unit) => (() : Unit))
((Fl.nxs ((B2 m_shown (some v_points) (some v_ties)).map fun _ => ())) : Option (Fl Unit Unit)))
(some (Fl.nx ()))) : Option (Fl Unit Unit))))))))))
noncomputable def m__law_first_eight (v_which : Int) (v_points : Int) (v_ties : (List (Int × Int))) : Option Unit := finU (b__law_first_eight v_which v_points v_ties)
noncomputable def x__law_first_eight_0 (v_which : Int) (v_points : Int) (v_ties : (List (Int × Int))) : Option Str :=
(BIf (B2 (fun i j => some (decide (i = j))) (some v_which) (some (0 : Int)))
(B2 x_pieces (some v_points) (some v_ties))
none)
noncomputable def x__law_first_eight_1 (v_which : Int) (v_points : Int) (v_ties : (List (Int × Int))) : Option Str :=
(sqX ((BIf (B2 (fun i j => some (decide (i = j))) (some v_which) (some (0 : Int)))
(Fl.mp (fun (u32 : Unit) => (() : Unit))
((Fl.nxs ((B2 m_pieces (some v_points) (some v_ties)).map fun _ => ())) : Option (Fl Unit Unit)))
(some (Fl.nx ()))) : Option (Fl Unit Unit)) fun (s31 : Unit) =>
(BIf (B2 (fun i j => some (decide (i = j))) (some v_which) (some (1 : Int)))
(B4 x_beside (some v_points) (some v_ties) (some (0 : Int)) (some ([] : List (Int × Int))))
none))
noncomputable def x__law_first_eight_2 (v_which : Int) (v_points : Int) (v_ties : (List (Int × Int))) : Option Str :=
(sqX ((BIf (B2 (fun i j => some (decide (i = j))) (some v_which) (some (0 : Int)))
(Fl.mp (fun (u32 : Unit) => (() : Unit))
((Fl.nxs ((B2 m_pieces (some v_points) (some v_ties)).map fun _ => ())) : Option (Fl Unit Unit)))
(some (Fl.nx ()))) : Option (Fl Unit Unit)) fun (s31 : Unit) =>
(sqX ((BIf (B2 (fun i j => some (decide (i = j))) (some v_which) (some (1 : Int)))
(Fl.mp (fun (u34 : Unit) => (() : Unit))
((Fl.nxs ((B4 m_beside (some v_points) (some v_ties) (some (0 : Int)) (some ([] : List (Int × Int)))).map fun _ => ())) : Option (Fl Unit Unit)))
(some (Fl.nx ()))) : Option (Fl Unit Unit)) fun (s33 : Unit) =>
(BIf (B2 (fun i j => some (decide (i = j))) (some v_which) (some (2 : Int)))
(B4 x_beside (some (0 : Int)) (some ([] : List (Int × Int))) (some v_points) (some v_ties))
none)))
noncomputable def x__law_first_eight_3 (v_which : Int) (v_points : Int) (v_ties : (List (Int × Int))) : Option Str :=
(sqX ((BIf (B2 (fun i j => some (decide (i = j))) (some v_which) (some (0 : Int)))
(Fl.mp (fun (u32 : Unit) => (() : Unit))
((Fl.nxs ((B2 m_pieces (some v_points) (some v_ties)).map fun _ => ())) : Option (Fl Unit Unit)))
(some (Fl.nx ()))) : Option (Fl Unit Unit)) fun (s31 : Unit) =>
(sqX ((BIf (B2 (fun i j => some (decide (i = j))) (some v_which) (some (1 : Int)))
(Fl.mp (fun (u34 : Unit) => (() : Unit))
((Fl.nxs ((B4 m_beside (some v_points) (some v_ties) (some (0 : Int)) (some ([] : List (Int × Int)))).map fun _ => ())) : Option (Fl Unit Unit)))
(some (Fl.nx ()))) : Option (Fl Unit Unit)) fun (s33 : Unit) =>
(sqX ((BIf (B2 (fun i j => some (decide (i = j))) (some v_which) (some (2 : Int)))
(Fl.mp (fun (u36 : Unit) => (() : Unit))
((Fl.nxs ((B4 m_beside (some (0 : Int)) (some ([] : List (Int × Int))) (some v_points) (some v_ties)).map fun _ => ())) : Option (Fl Unit Unit)))
(some (Fl.nx ()))) : Option (Fl Unit Unit)) fun (s35 : Unit) =>
(BIf (B2 (fun i j => some (decide (i = j))) (some v_which) (some (3 : Int)))
(B2 x_row (some v_points) (some v_ties))
none))))
noncomputable def x__law_first_eight_4 (v_which : Int) (v_points : Int) (v_ties : (List (Int × Int))) : Option Str :=
(sqX ((BIf (B2 (fun i j => some (decide (i = j))) (some v_which) (some (0 : Int)))
(Fl.mp (fun (u32 : Unit) => (() : Unit))
((Fl.nxs ((B2 m_pieces (some v_points) (some v_ties)).map fun _ => ())) : Option (Fl Unit Unit)))
(some (Fl.nx ()))) : Option (Fl Unit Unit)) fun (s31 : Unit) =>
(sqX ((BIf (B2 (fun i j => some (decide (i = j))) (some v_which) (some (1 : Int)))
(Fl.mp (fun (u34 : Unit) => (() : Unit))
((Fl.nxs ((B4 m_beside (some v_points) (some v_ties) (some (0 : Int)) (some ([] : List (Int × Int)))).map fun _ => ())) : Option (Fl Unit Unit)))
(some (Fl.nx ()))) : Option (Fl Unit Unit)) fun (s33 : Unit) =>
(sqX ((BIf (B2 (fun i j => some (decide (i = j))) (some v_which) (some (2 : Int)))
(Fl.mp (fun (u36 : Unit) => (() : Unit))
((Fl.nxs ((B4 m_beside (some (0 : Int)) (some ([] : List (Int × Int))) (some v_points) (some v_ties)).map fun _ => ())) : Option (Fl Unit Unit)))
(some (Fl.nx ()))) : Option (Fl Unit Unit)) fun (s35 : Unit) =>
(sqX ((BIf (B2 (fun i j => some (decide (i = j))) (some v_which) (some (3 : Int)))
(Fl.mp (fun (u38 : Unit) => (() : Unit))
((Fl.nxs ((B2 m_row (some v_points) (some v_ties)).map fun _ => ())) : Option (Fl Unit Unit)))
(some (Fl.nx ()))) : Option (Fl Unit Unit)) fun (s37 : Unit) =>
(BIf (B2 (fun i j => some (decide (i = j))) (some v_which) (some (4 : Int)))
(B4 x_is_dyeing (some v_points) (some v_ties) (B2 (fun a l => some (a :: l)) (some (0 : Int)) (some [])) (some (3 : Int)))
none)))))
noncomputable def x__law_first_eight_5 (v_which : Int) (v_points : Int) (v_ties : (List (Int × Int))) : Option Str :=
(sqX ((BIf (B2 (fun i j => some (decide (i = j))) (some v_which) (some (0 : Int)))
(Fl.mp (fun (u32 : Unit) => (() : Unit))
((Fl.nxs ((B2 m_pieces (some v_points) (some v_ties)).map fun _ => ())) : Option (Fl Unit Unit)))
(some (Fl.nx ()))) : Option (Fl Unit Unit)) fun (s31 : Unit) =>
(sqX ((BIf (B2 (fun i j => some (decide (i = j))) (some v_which) (some (1 : Int)))
(Fl.mp (fun (u34 : Unit) => (() : Unit))
((Fl.nxs ((B4 m_beside (some v_points) (some v_ties) (some (0 : Int)) (some ([] : List (Int × Int)))).map fun _ => ())) : Option (Fl Unit Unit)))
(some (Fl.nx ()))) : Option (Fl Unit Unit)) fun (s33 : Unit) =>
(sqX ((BIf (B2 (fun i j => some (decide (i = j))) (some v_which) (some (2 : Int)))
(Fl.mp (fun (u36 : Unit) => (() : Unit))
((Fl.nxs ((B4 m_beside (some (0 : Int)) (some ([] : List (Int × Int))) (some v_points) (some v_ties)).map fun _ => ())) : Option (Fl Unit Unit)))
(some (Fl.nx ()))) : Option (Fl Unit Unit)) fun (s35 : Unit) =>
(sqX ((BIf (B2 (fun i j => some (decide (i = j))) (some v_which) (some (3 : Int)))
(Fl.mp (fun (u38 : Unit) => (() : Unit))
((Fl.nxs ((B2 m_row (some v_points) (some v_ties)).map fun _ => ())) : Option (Fl Unit Unit)))
(some (Fl.nx ()))) : Option (Fl Unit Unit)) fun (s37 : Unit) =>
(sqX ((BIf (B2 (fun i j => some (decide (i = j))) (some v_which) (some (4 : Int)))
(Fl.mp (fun (u40 : Unit) => (() : Unit))
((Fl.nxs ((B4 m_is_dyeing (some v_points) (some v_ties) (B2 (fun a l => some (a :: l)) (some (0 : Int)) (some [])) (some (3 : Int))).map fun _ => ())) : Option (Fl Unit Unit)))
(some (Fl.nx ()))) : Option (Fl Unit Unit)) fun (s39 : Unit) =>
(BIf (B2 (fun i j => some (decide (i = j))) (some v_which) (some (5 : Int)))
(B2 x_fewest (some v_points) (some v_ties))
none))))))
noncomputable def x__law_first_eight_6 (v_which : Int) (v_points : Int) (v_ties : (List (Int × Int))) : Option Str :=
(sqX ((BIf (B2 (fun i j => some (decide (i = j))) (some v_which) (some (0 : Int)))
(Fl.mp (fun (u32 : Unit) => (() : Unit))
((Fl.nxs ((B2 m_pieces (some v_points) (some v_ties)).map fun _ => ())) : Option (Fl Unit Unit)))
(some (Fl.nx ()))) : Option (Fl Unit Unit)) fun (s31 : Unit) =>
(sqX ((BIf (B2 (fun i j => some (decide (i = j))) (some v_which) (some (1 : Int)))
(Fl.mp (fun (u34 : Unit) => (() : Unit))
((Fl.nxs ((B4 m_beside (some v_points) (some v_ties) (some (0 : Int)) (some ([] : List (Int × Int)))).map fun _ => ())) : Option (Fl Unit Unit)))
(some (Fl.nx ()))) : Option (Fl Unit Unit)) fun (s33 : Unit) =>
(sqX ((BIf (B2 (fun i j => some (decide (i = j))) (some v_which) (some (2 : Int)))
(Fl.mp (fun (u36 : Unit) => (() : Unit))
((Fl.nxs ((B4 m_beside (some (0 : Int)) (some ([] : List (Int × Int))) (some v_points) (some v_ties)).map fun _ => ())) : Option (Fl Unit Unit)))
(some (Fl.nx ()))) : Option (Fl Unit Unit)) fun (s35 : Unit) =>
(sqX ((BIf (B2 (fun i j => some (decide (i = j))) (some v_which) (some (3 : Int)))
(Fl.mp (fun (u38 : Unit) => (() : Unit))
((Fl.nxs ((B2 m_row (some v_points) (some v_ties)).map fun _ => ())) : Option (Fl Unit Unit)))
(some (Fl.nx ()))) : Option (Fl Unit Unit)) fun (s37 : Unit) =>
(sqX ((BIf (B2 (fun i j => some (decide (i = j))) (some v_which) (some (4 : Int)))
(Fl.mp (fun (u40 : Unit) => (() : Unit))
((Fl.nxs ((B4 m_is_dyeing (some v_points) (some v_ties) (B2 (fun a l => some (a :: l)) (some (0 : Int)) (some [])) (some (3 : Int))).map fun _ => ())) : Option (Fl Unit Unit)))
(some (Fl.nx ()))) : Option (Fl Unit Unit)) fun (s39 : Unit) =>
(sqX ((BIf (B2 (fun i j => some (decide (i = j))) (some v_which) (some (5 : Int)))
(Fl.mp (fun (u42 : Unit) => (() : Unit))
((Fl.nxs ((B2 m_fewest (some v_points) (some v_ties)).map fun _ => ())) : Option (Fl Unit Unit)))
(some (Fl.nx ()))) : Option (Fl Unit Unit)) fun (s41 : Unit) =>
(BIf (B2 (fun i j => some (decide (i = j))) (some v_which) (some (6 : Int)))
(B3 x_least (some v_points) (some v_ties) (some (2 : Int)))
none)))))))
noncomputable def x__law_first_eight_7 (v_which : Int) (v_points : Int) (v_ties : (List (Int × Int))) : Option Str :=
(sqX ((BIf (B2 (fun i j => some (decide (i = j))) (some v_which) (some (0 : Int)))
(Fl.mp (fun (u32 : Unit) => (() : Unit))
((Fl.nxs ((B2 m_pieces (some v_points) (some v_ties)).map fun _ => ())) : Option (Fl Unit Unit)))
(some (Fl.nx ()))) : Option (Fl Unit Unit)) fun (s31 : Unit) =>
(sqX ((BIf (B2 (fun i j => some (decide (i = j))) (some v_which) (some (1 : Int)))
(Fl.mp (fun (u34 : Unit) => (() : Unit))
((Fl.nxs ((B4 m_beside (some v_points) (some v_ties) (some (0 : Int)) (some ([] : List (Int × Int)))).map fun _ => ())) : Option (Fl Unit Unit)))
(some (Fl.nx ()))) : Option (Fl Unit Unit)) fun (s33 : Unit) =>
(sqX ((BIf (B2 (fun i j => some (decide (i = j))) (some v_which) (some (2 : Int)))
(Fl.mp (fun (u36 : Unit) => (() : Unit))
((Fl.nxs ((B4 m_beside (some (0 : Int)) (some ([] : List (Int × Int))) (some v_points) (some v_ties)).map fun _ => ())) : Option (Fl Unit Unit)))
(some (Fl.nx ()))) : Option (Fl Unit Unit)) fun (s35 : Unit) =>
(sqX ((BIf (B2 (fun i j => some (decide (i = j))) (some v_which) (some (3 : Int)))
(Fl.mp (fun (u38 : Unit) => (() : Unit))
((Fl.nxs ((B2 m_row (some v_points) (some v_ties)).map fun _ => ())) : Option (Fl Unit Unit)))
(some (Fl.nx ()))) : Option (Fl Unit Unit)) fun (s37 : Unit) =>
(sqX ((BIf (B2 (fun i j => some (decide (i = j))) (some v_which) (some (4 : Int)))
(Fl.mp (fun (u40 : Unit) => (() : Unit))
((Fl.nxs ((B4 m_is_dyeing (some v_points) (some v_ties) (B2 (fun a l => some (a :: l)) (some (0 : Int)) (some [])) (some (3 : Int))).map fun _ => ())) : Option (Fl Unit Unit)))
(some (Fl.nx ()))) : Option (Fl Unit Unit)) fun (s39 : Unit) =>
(sqX ((BIf (B2 (fun i j => some (decide (i = j))) (some v_which) (some (5 : Int)))
(Fl.mp (fun (u42 : Unit) => (() : Unit))
((Fl.nxs ((B2 m_fewest (some v_points) (some v_ties)).map fun _ => ())) : Option (Fl Unit Unit)))
(some (Fl.nx ()))) : Option (Fl Unit Unit)) fun (s41 : Unit) =>
(sqX ((BIf (B2 (fun i j => some (decide (i = j))) (some v_which) (some (6 : Int)))
(Fl.mp (fun (u44 : Unit) => (() : Unit))
((Fl.nxs ((B3 m_least (some v_points) (some v_ties) (some (2 : Int))).map fun _ => ())) : Option (Fl Unit Unit)))
(some (Fl.nx ()))) : Option (Fl Unit Unit)) fun (s43 : Unit) =>
(BIf (B2 (fun i j => some (decide (i = j))) (some v_which) (some (7 : Int)))
(B2 x_shown (some v_points) (some v_ties))
none))))))))
noncomputable def x__law_first_eight (v_which : Int) (v_points : Int) (v_ties : (List (Int × Int))) : Option Str := (Option.or (x__law_first_eight_0 v_which v_points v_ties) (Option.or (x__law_first_eight_1 v_which v_points v_ties) (Option.or (x__law_first_eight_2 v_which v_points v_ties) (Option.or (x__law_first_eight_3 v_which v_points v_ties) (Option.or (x__law_first_eight_4 v_which v_points v_ties) (Option.or (x__law_first_eight_5 v_which v_points v_ties) (Option.or (x__law_first_eight_6 v_which v_points v_ties) (x__law_first_eight_7 v_which v_points v_ties))))))))
noncomputable def b__law_others (v_which : Int) (v_points : Int) (v_ties : (List (Int × Int))) (v_tints : (List Int)) : Option (Fl Unit Unit) :=
none
noncomputable def m__law_others (v_which : Int) (v_points : Int) (v_ties : (List (Int × Int))) (v_tints : (List Int)) : Option Unit := finU (b__law_others v_which v_points v_ties v_tints)
noncomputable def x__law_others_0 (v_which : Int) (v_points : Int) (v_ties : (List (Int × Int))) (v_tints : (List Int)) : Option Str :=
(BIf (B2 (fun i j => some (decide (i = j))) (some v_which) (some (8 : Int)))
(B3 x_goes_round (some v_points) (some v_ties) (B2 (fun a l => some (a :: l)) (some true) (some [])))
none)
noncomputable def x__law_others_1 (v_which : Int) (v_points : Int) (v_ties : (List (Int × Int))) (v_tints : (List Int)) : Option Str :=
(sqX ((BIf (B2 (fun i j => some (decide (i = j))) (some v_which) (some (8 : Int)))
(Fl.mp (fun (u20 : Unit) => (() : Unit))
((Fl.nxs ((B3 m_goes_round (some v_points) (some v_ties) (B2 (fun a l => some (a :: l)) (some true) (some []))).map fun _ => ())) : Option (Fl Unit Unit)))
(some (Fl.nx ()))) : Option (Fl Unit Unit)) fun (s19 : Unit) =>
(BIf (B2 (fun i j => some (decide (i = j))) (some v_which) (some (9 : Int)))
(B3 x_ranks (some v_points) (some v_ties) (some ([] : List Bool)))
none))
noncomputable def x__law_others_2 (v_which : Int) (v_points : Int) (v_ties : (List (Int × Int))) (v_tints : (List Int)) : Option Str :=
(sqX ((BIf (B2 (fun i j => some (decide (i = j))) (some v_which) (some (8 : Int)))
(Fl.mp (fun (u20 : Unit) => (() : Unit))
((Fl.nxs ((B3 m_goes_round (some v_points) (some v_ties) (B2 (fun a l => some (a :: l)) (some true) (some []))).map fun _ => ())) : Option (Fl Unit Unit)))
(some (Fl.nx ()))) : Option (Fl Unit Unit)) fun (s19 : Unit) =>
(sqX ((BIf (B2 (fun i j => some (decide (i = j))) (some v_which) (some (9 : Int)))
(Fl.mp (fun (u22 : Unit) => (() : Unit))
((Fl.nxs ((B3 m_ranks (some v_points) (some v_ties) (some ([] : List Bool))).map fun _ => ())) : Option (Fl Unit Unit)))
(some (Fl.nx ()))) : Option (Fl Unit Unit)) fun (s21 : Unit) =>
(BIf (B2 (fun i j => some (decide (i = j))) (some v_which) (some (10 : Int)))
(B3 x_setting_of (some v_points) (some v_ties) (some v_tints))
none)))
noncomputable def x__law_others_3 (v_which : Int) (v_points : Int) (v_ties : (List (Int × Int))) (v_tints : (List Int)) : Option Str :=
(sqX ((BIf (B2 (fun i j => some (decide (i = j))) (some v_which) (some (8 : Int)))
(Fl.mp (fun (u20 : Unit) => (() : Unit))
((Fl.nxs ((B3 m_goes_round (some v_points) (some v_ties) (B2 (fun a l => some (a :: l)) (some true) (some []))).map fun _ => ())) : Option (Fl Unit Unit)))
(some (Fl.nx ()))) : Option (Fl Unit Unit)) fun (s19 : Unit) =>
(sqX ((BIf (B2 (fun i j => some (decide (i = j))) (some v_which) (some (9 : Int)))
(Fl.mp (fun (u22 : Unit) => (() : Unit))
((Fl.nxs ((B3 m_ranks (some v_points) (some v_ties) (some ([] : List Bool))).map fun _ => ())) : Option (Fl Unit Unit)))
(some (Fl.nx ()))) : Option (Fl Unit Unit)) fun (s21 : Unit) =>
(sqX ((BIf (B2 (fun i j => some (decide (i = j))) (some v_which) (some (10 : Int)))
(Fl.mp (fun (u24 : Unit) => (() : Unit))
((Fl.nxs ((B3 m_setting_of (some v_points) (some v_ties) (some v_tints)).map fun _ => ())) : Option (Fl Unit Unit)))
(some (Fl.nx ()))) : Option (Fl Unit Unit)) fun (s23 : Unit) =>
(BIf (B2 (fun i j => some (decide (i = j))) (some v_which) (some (11 : Int)))
(B2 x_flattest (some v_points) (some v_ties))
none))))
noncomputable def x__law_others_4 (v_which : Int) (v_points : Int) (v_ties : (List (Int × Int))) (v_tints : (List Int)) : Option Str :=
(sqX ((BIf (B2 (fun i j => some (decide (i = j))) (some v_which) (some (8 : Int)))
(Fl.mp (fun (u20 : Unit) => (() : Unit))
((Fl.nxs ((B3 m_goes_round (some v_points) (some v_ties) (B2 (fun a l => some (a :: l)) (some true) (some []))).map fun _ => ())) : Option (Fl Unit Unit)))
(some (Fl.nx ()))) : Option (Fl Unit Unit)) fun (s19 : Unit) =>
(sqX ((BIf (B2 (fun i j => some (decide (i = j))) (some v_which) (some (9 : Int)))
(Fl.mp (fun (u22 : Unit) => (() : Unit))
((Fl.nxs ((B3 m_ranks (some v_points) (some v_ties) (some ([] : List Bool))).map fun _ => ())) : Option (Fl Unit Unit)))
(some (Fl.nx ()))) : Option (Fl Unit Unit)) fun (s21 : Unit) =>
(sqX ((BIf (B2 (fun i j => some (decide (i = j))) (some v_which) (some (10 : Int)))
(Fl.mp (fun (u24 : Unit) => (() : Unit))
((Fl.nxs ((B3 m_setting_of (some v_points) (some v_ties) (some v_tints)).map fun _ => ())) : Option (Fl Unit Unit)))
(some (Fl.nx ()))) : Option (Fl Unit Unit)) fun (s23 : Unit) =>
(sqX ((BIf (B2 (fun i j => some (decide (i = j))) (some v_which) (some (11 : Int)))
(Fl.mp (fun (u26 : Unit) => (() : Unit))
((Fl.nxs ((B2 m_flattest (some v_points) (some v_ties)).map fun _ => ())) : Option (Fl Unit Unit)))
(some (Fl.nx ()))) : Option (Fl Unit Unit)) fun (s25 : Unit) =>
(BIf (B2 (fun i j => some (decide (i = j))) (some v_which) (some (12 : Int)))
(B2 x_settings (some v_points) (some v_ties))
none)))))
noncomputable def x__law_others_5 (v_which : Int) (v_points : Int) (v_ties : (List (Int × Int))) (v_tints : (List Int)) : Option Str :=
(sqX ((BIf (B2 (fun i j => some (decide (i = j))) (some v_which) (some (8 : Int)))
(Fl.mp (fun (u20 : Unit) => (() : Unit))
((Fl.nxs ((B3 m_goes_round (some v_points) (some v_ties) (B2 (fun a l => some (a :: l)) (some true) (some []))).map fun _ => ())) : Option (Fl Unit Unit)))
(some (Fl.nx ()))) : Option (Fl Unit Unit)) fun (s19 : Unit) =>
(sqX ((BIf (B2 (fun i j => some (decide (i = j))) (some v_which) (some (9 : Int)))
(Fl.mp (fun (u22 : Unit) => (() : Unit))
((Fl.nxs ((B3 m_ranks (some v_points) (some v_ties) (some ([] : List Bool))).map fun _ => ())) : Option (Fl Unit Unit)))
(some (Fl.nx ()))) : Option (Fl Unit Unit)) fun (s21 : Unit) =>
(sqX ((BIf (B2 (fun i j => some (decide (i = j))) (some v_which) (some (10 : Int)))
(Fl.mp (fun (u24 : Unit) => (() : Unit))
((Fl.nxs ((B3 m_setting_of (some v_points) (some v_ties) (some v_tints)).map fun _ => ())) : Option (Fl Unit Unit)))
(some (Fl.nx ()))) : Option (Fl Unit Unit)) fun (s23 : Unit) =>
(sqX ((BIf (B2 (fun i j => some (decide (i = j))) (some v_which) (some (11 : Int)))
(Fl.mp (fun (u26 : Unit) => (() : Unit))
((Fl.nxs ((B2 m_flattest (some v_points) (some v_ties)).map fun _ => ())) : Option (Fl Unit Unit)))
(some (Fl.nx ()))) : Option (Fl Unit Unit)) fun (s25 : Unit) =>
(sqX ((BIf (B2 (fun i j => some (decide (i = j))) (some v_which) (some (12 : Int)))
(Fl.mp (fun (u28 : Unit) => (() : Unit))
((Fl.nxs ((B2 m_settings (some v_points) (some v_ties)).map fun _ => ())) : Option (Fl Unit Unit)))
(some (Fl.nx ()))) : Option (Fl Unit Unit)) fun (s27 : Unit) =>
(BIf (B2 (fun i j => some (decide (i = j))) (some v_which) (some (13 : Int)))
(B3 x_from_spring (some v_points) (some v_ties) (some (0 : Int)))
none))))))
noncomputable def x__law_others_6 (v_which : Int) (v_points : Int) (v_ties : (List (Int × Int))) (v_tints : (List Int)) : Option Str :=
(sqX ((BIf (B2 (fun i j => some (decide (i = j))) (some v_which) (some (8 : Int)))
(Fl.mp (fun (u20 : Unit) => (() : Unit))
((Fl.nxs ((B3 m_goes_round (some v_points) (some v_ties) (B2 (fun a l => some (a :: l)) (some true) (some []))).map fun _ => ())) : Option (Fl Unit Unit)))
(some (Fl.nx ()))) : Option (Fl Unit Unit)) fun (s19 : Unit) =>
(sqX ((BIf (B2 (fun i j => some (decide (i = j))) (some v_which) (some (9 : Int)))
(Fl.mp (fun (u22 : Unit) => (() : Unit))
((Fl.nxs ((B3 m_ranks (some v_points) (some v_ties) (some ([] : List Bool))).map fun _ => ())) : Option (Fl Unit Unit)))
(some (Fl.nx ()))) : Option (Fl Unit Unit)) fun (s21 : Unit) =>
(sqX ((BIf (B2 (fun i j => some (decide (i = j))) (some v_which) (some (10 : Int)))
(Fl.mp (fun (u24 : Unit) => (() : Unit))
((Fl.nxs ((B3 m_setting_of (some v_points) (some v_ties) (some v_tints)).map fun _ => ())) : Option (Fl Unit Unit)))
(some (Fl.nx ()))) : Option (Fl Unit Unit)) fun (s23 : Unit) =>
(sqX ((BIf (B2 (fun i j => some (decide (i = j))) (some v_which) (some (11 : Int)))
(Fl.mp (fun (u26 : Unit) => (() : Unit))
((Fl.nxs ((B2 m_flattest (some v_points) (some v_ties)).map fun _ => ())) : Option (Fl Unit Unit)))
(some (Fl.nx ()))) : Option (Fl Unit Unit)) fun (s25 : Unit) =>
(sqX ((BIf (B2 (fun i j => some (decide (i = j))) (some v_which) (some (12 : Int)))
(Fl.mp (fun (u28 : Unit) => (() : Unit))
((Fl.nxs ((B2 m_settings (some v_points) (some v_ties)).map fun _ => ())) : Option (Fl Unit Unit)))
(some (Fl.nx ()))) : Option (Fl Unit Unit)) fun (s27 : Unit) =>
(sqX ((BIf (B2 (fun i j => some (decide (i = j))) (some v_which) (some (13 : Int)))
(Fl.mp (fun (u30 : Unit) => (() : Unit))
((Fl.nxs ((B3 m_from_spring (some v_points) (some v_ties) (some (0 : Int))).map fun _ => ())) : Option (Fl Unit Unit)))
(some (Fl.nx ()))) : Option (Fl Unit Unit)) fun (s29 : Unit) =>
(BIf (B2 (fun i j => some (decide (i = j))) (some v_which) (some (14 : Int)))
(B3 x_pairs (some v_points) (some v_ties) (some (20 : Int)))
none)))))))
noncomputable def x__law_others_7 (v_which : Int) (v_points : Int) (v_ties : (List (Int × Int))) (v_tints : (List Int)) : Option Str :=
(sqX ((BIf (B2 (fun i j => some (decide (i = j))) (some v_which) (some (8 : Int)))
(Fl.mp (fun (u20 : Unit) => (() : Unit))
((Fl.nxs ((B3 m_goes_round (some v_points) (some v_ties) (B2 (fun a l => some (a :: l)) (some true) (some []))).map fun _ => ())) : Option (Fl Unit Unit)))
(some (Fl.nx ()))) : Option (Fl Unit Unit)) fun (s19 : Unit) =>
(sqX ((BIf (B2 (fun i j => some (decide (i = j))) (some v_which) (some (9 : Int)))
(Fl.mp (fun (u22 : Unit) => (() : Unit))
((Fl.nxs ((B3 m_ranks (some v_points) (some v_ties) (some ([] : List Bool))).map fun _ => ())) : Option (Fl Unit Unit)))
(some (Fl.nx ()))) : Option (Fl Unit Unit)) fun (s21 : Unit) =>
(sqX ((BIf (B2 (fun i j => some (decide (i = j))) (some v_which) (some (10 : Int)))
(Fl.mp (fun (u24 : Unit) => (() : Unit))
((Fl.nxs ((B3 m_setting_of (some v_points) (some v_ties) (some v_tints)).map fun _ => ())) : Option (Fl Unit Unit)))
(some (Fl.nx ()))) : Option (Fl Unit Unit)) fun (s23 : Unit) =>
(sqX ((BIf (B2 (fun i j => some (decide (i = j))) (some v_which) (some (11 : Int)))
(Fl.mp (fun (u26 : Unit) => (() : Unit))
((Fl.nxs ((B2 m_flattest (some v_points) (some v_ties)).map fun _ => ())) : Option (Fl Unit Unit)))
(some (Fl.nx ()))) : Option (Fl Unit Unit)) fun (s25 : Unit) =>
(sqX ((BIf (B2 (fun i j => some (decide (i = j))) (some v_which) (some (12 : Int)))
(Fl.mp (fun (u28 : Unit) => (() : Unit))
((Fl.nxs ((B2 m_settings (some v_points) (some v_ties)).map fun _ => ())) : Option (Fl Unit Unit)))
(some (Fl.nx ()))) : Option (Fl Unit Unit)) fun (s27 : Unit) =>
(sqX ((BIf (B2 (fun i j => some (decide (i = j))) (some v_which) (some (13 : Int)))
(Fl.mp (fun (u30 : Unit) => (() : Unit))
((Fl.nxs ((B3 m_from_spring (some v_points) (some v_ties) (some (0 : Int))).map fun _ => ())) : Option (Fl Unit Unit)))
(some (Fl.nx ()))) : Option (Fl Unit Unit)) fun (s29 : Unit) =>
(sqX ((BIf (B2 (fun i j => some (decide (i = j))) (some v_which) (some (14 : Int)))
(Fl.mp (fun (u32 : Unit) => (() : Unit))
((Fl.nxs ((B3 m_pairs (some v_points) (some v_ties) (some (20 : Int))).map fun _ => ())) : Option (Fl Unit Unit)))
(some (Fl.nx ()))) : Option (Fl Unit Unit)) fun (s31 : Unit) =>
(BIf (B2 (fun i j => some (decide (i = j))) (some v_which) (some (15 : Int)))
(B3 x_unbroken (some v_points) (some v_ties) (some (20 : Int)))
none))))))))
noncomputable def x__law_others_8 (v_which : Int) (v_points : Int) (v_ties : (List (Int × Int))) (v_tints : (List Int)) : Option Str :=
(sqX ((BIf (B2 (fun i j => some (decide (i = j))) (some v_which) (some (8 : Int)))
(Fl.mp (fun (u20 : Unit) => (() : Unit))
((Fl.nxs ((B3 m_goes_round (some v_points) (some v_ties) (B2 (fun a l => some (a :: l)) (some true) (some []))).map fun _ => ())) : Option (Fl Unit Unit)))
(some (Fl.nx ()))) : Option (Fl Unit Unit)) fun (s19 : Unit) =>
(sqX ((BIf (B2 (fun i j => some (decide (i = j))) (some v_which) (some (9 : Int)))
(Fl.mp (fun (u22 : Unit) => (() : Unit))
((Fl.nxs ((B3 m_ranks (some v_points) (some v_ties) (some ([] : List Bool))).map fun _ => ())) : Option (Fl Unit Unit)))
(some (Fl.nx ()))) : Option (Fl Unit Unit)) fun (s21 : Unit) =>
(sqX ((BIf (B2 (fun i j => some (decide (i = j))) (some v_which) (some (10 : Int)))
(Fl.mp (fun (u24 : Unit) => (() : Unit))
((Fl.nxs ((B3 m_setting_of (some v_points) (some v_ties) (some v_tints)).map fun _ => ())) : Option (Fl Unit Unit)))
(some (Fl.nx ()))) : Option (Fl Unit Unit)) fun (s23 : Unit) =>
(sqX ((BIf (B2 (fun i j => some (decide (i = j))) (some v_which) (some (11 : Int)))
(Fl.mp (fun (u26 : Unit) => (() : Unit))
((Fl.nxs ((B2 m_flattest (some v_points) (some v_ties)).map fun _ => ())) : Option (Fl Unit Unit)))
(some (Fl.nx ()))) : Option (Fl Unit Unit)) fun (s25 : Unit) =>
(sqX ((BIf (B2 (fun i j => some (decide (i = j))) (some v_which) (some (12 : Int)))
(Fl.mp (fun (u28 : Unit) => (() : Unit))
((Fl.nxs ((B2 m_settings (some v_points) (some v_ties)).map fun _ => ())) : Option (Fl Unit Unit)))
(some (Fl.nx ()))) : Option (Fl Unit Unit)) fun (s27 : Unit) =>
(sqX ((BIf (B2 (fun i j => some (decide (i = j))) (some v_which) (some (13 : Int)))
(Fl.mp (fun (u30 : Unit) => (() : Unit))
((Fl.nxs ((B3 m_from_spring (some v_points) (some v_ties) (some (0 : Int))).map fun _ => ())) : Option (Fl Unit Unit)))
(some (Fl.nx ()))) : Option (Fl Unit Unit)) fun (s29 : Unit) =>
(sqX ((BIf (B2 (fun i j => some (decide (i = j))) (some v_which) (some (14 : Int)))
(Fl.mp (fun (u32 : Unit) => (() : Unit))
((Fl.nxs ((B3 m_pairs (some v_points) (some v_ties) (some (20 : Int))).map fun _ => ())) : Option (Fl Unit Unit)))
(some (Fl.nx ()))) : Option (Fl Unit Unit)) fun (s31 : Unit) =>
(sqX ((BIf (B2 (fun i j => some (decide (i = j))) (some v_which) (some (15 : Int)))
(Fl.mp (fun (u34 : Unit) => (() : Unit))
((Fl.nxs ((B3 m_unbroken (some v_points) (some v_ties) (some (20 : Int))).map fun _ => ())) : Option (Fl Unit Unit)))
(some (Fl.nx ()))) : Option (Fl Unit Unit)) fun (s33 : Unit) =>
(BIf (B2 (fun i j => some (decide (i = j))) (some v_which) (some (16 : Int)))
(B3 x_cut (some v_points) (some v_ties) (B2 (fun a b => some (a, b)) (some (5 : Int)) (some (4 : Int))))
none)))))))))
noncomputable def x__law_others_9 (v_which : Int) (v_points : Int) (v_ties : (List (Int × Int))) (v_tints : (List Int)) : Option Str :=
(sqX ((BIf (B2 (fun i j => some (decide (i = j))) (some v_which) (some (8 : Int)))
(Fl.mp (fun (u20 : Unit) => (() : Unit))
((Fl.nxs ((B3 m_goes_round (some v_points) (some v_ties) (B2 (fun a l => some (a :: l)) (some true) (some []))).map fun _ => ())) : Option (Fl Unit Unit)))
(some (Fl.nx ()))) : Option (Fl Unit Unit)) fun (s19 : Unit) =>
(sqX ((BIf (B2 (fun i j => some (decide (i = j))) (some v_which) (some (9 : Int)))
(Fl.mp (fun (u22 : Unit) => (() : Unit))
((Fl.nxs ((B3 m_ranks (some v_points) (some v_ties) (some ([] : List Bool))).map fun _ => ())) : Option (Fl Unit Unit)))
(some (Fl.nx ()))) : Option (Fl Unit Unit)) fun (s21 : Unit) =>
(sqX ((BIf (B2 (fun i j => some (decide (i = j))) (some v_which) (some (10 : Int)))
(Fl.mp (fun (u24 : Unit) => (() : Unit))
((Fl.nxs ((B3 m_setting_of (some v_points) (some v_ties) (some v_tints)).map fun _ => ())) : Option (Fl Unit Unit)))
(some (Fl.nx ()))) : Option (Fl Unit Unit)) fun (s23 : Unit) =>
(sqX ((BIf (B2 (fun i j => some (decide (i = j))) (some v_which) (some (11 : Int)))
(Fl.mp (fun (u26 : Unit) => (() : Unit))
((Fl.nxs ((B2 m_flattest (some v_points) (some v_ties)).map fun _ => ())) : Option (Fl Unit Unit)))
(some (Fl.nx ()))) : Option (Fl Unit Unit)) fun (s25 : Unit) =>
(sqX ((BIf (B2 (fun i j => some (decide (i = j))) (some v_which) (some (12 : Int)))
(Fl.mp (fun (u28 : Unit) => (() : Unit))
((Fl.nxs ((B2 m_settings (some v_points) (some v_ties)).map fun _ => ())) : Option (Fl Unit Unit)))
(some (Fl.nx ()))) : Option (Fl Unit Unit)) fun (s27 : Unit) =>
(sqX ((BIf (B2 (fun i j => some (decide (i = j))) (some v_which) (some (13 : Int)))
(Fl.mp (fun (u30 : Unit) => (() : Unit))
((Fl.nxs ((B3 m_from_spring (some v_points) (some v_ties) (some (0 : Int))).map fun _ => ())) : Option (Fl Unit Unit)))
(some (Fl.nx ()))) : Option (Fl Unit Unit)) fun (s29 : Unit) =>
(sqX ((BIf (B2 (fun i j => some (decide (i = j))) (some v_which) (some (14 : Int)))
(Fl.mp (fun (u32 : Unit) => (() : Unit))
((Fl.nxs ((B3 m_pairs (some v_points) (some v_ties) (some (20 : Int))).map fun _ => ())) : Option (Fl Unit Unit)))
(some (Fl.nx ()))) : Option (Fl Unit Unit)) fun (s31 : Unit) =>
(sqX ((BIf (B2 (fun i j => some (decide (i = j))) (some v_which) (some (15 : Int)))
(Fl.mp (fun (u34 : Unit) => (() : Unit))
((Fl.nxs ((B3 m_unbroken (some v_points) (some v_ties) (some (20 : Int))).map fun _ => ())) : Option (Fl Unit Unit)))
(some (Fl.nx ()))) : Option (Fl Unit Unit)) fun (s33 : Unit) =>
(sqX ((BIf (B2 (fun i j => some (decide (i = j))) (some v_which) (some (16 : Int)))
(Fl.mp (fun (u36 : Unit) => (() : Unit))
((Fl.nxs ((B3 m_cut (some v_points) (some v_ties) (B2 (fun a b => some (a, b)) (some (5 : Int)) (some (4 : Int)))).map fun _ => ())) : Option (Fl Unit Unit)))
(some (Fl.nx ()))) : Option (Fl Unit Unit)) fun (s35 : Unit) =>
(BIf (B2 (fun i j => some (decide (i = j))) (some v_which) (some (17 : Int)))
(B3 x_merged (some v_points) (some v_ties) (B2 (fun a b => some (a, b)) (some (5 : Int)) (some (4 : Int))))
none))))))))))
noncomputable def x__law_others (v_which : Int) (v_points : Int) (v_ties : (List (Int × Int))) (v_tints : (List Int)) : Option Str := (Option.or (x__law_others_0 v_which v_points v_ties v_tints) (Option.or (x__law_others_1 v_which v_points v_ties v_tints) (Option.or (x__law_others_2 v_which v_points v_ties v_tints) (Option.or (x__law_others_3 v_which v_points v_ties v_tints) (Option.or (x__law_others_4 v_which v_points v_ties v_tints) (Option.or (x__law_others_5 v_which v_points v_ties v_tints) (Option.or (x__law_others_6 v_which v_points v_ties v_tints) (Option.or (x__law_others_7 v_which v_points v_ties v_tints) (Option.or (x__law_others_8 v_which v_points v_ties v_tints) (x__law_others_9 v_which v_points v_ties v_tints))))))))))
noncomputable def b_law (v_script : (List Int)) : Option (Fl Bool Unit) :=
(Fl.sq ((Fl.nxs (B4 m__law_web_by (B2 catM (B2 (fun a l => some (a :: l)) (B2 (fun i j => some (i + j)) (some (2 : Int)) (B2 modM (B2 m__law_cell_at (some v_script) (some (0 : Int))) (some (6 : Int)))) (some [])) (B3 (fun l a b => some (cutA l a b)) (some v_script) ((some (1 : Int)).map some) (some none))) (some (0 : Int)) (some (7 : Int)) (some (12 : Int)))) : Option (Fl Bool (Int × (List (Int × Int))))) fun (v_1 : (Int × (List (Int × Int)))) =>
(Fl.sq ((BIf (B2 (fun i j => some (decide (i = j))) (B1 (fun l => some (l.length : Int)) (some v_1.2)) (some (0 : Int)))
(Fl.mp (fun (v_ties_3 : (List (Int × Int))) => (v_ties_3 : ((List (Int × Int)))))
((Fl.nxs (B2 (fun a l => some (a :: l)) (B2 (fun a b => some (a, b)) (some (0 : Int)) (some (1 : Int))) (some []))) : Option (Fl Bool (List (Int × Int)))))
(some (Fl.nx v_1.2))) : Option (Fl Bool ((List (Int × Int))))) fun (s2 : ((List (Int × Int)))) =>
(Fl.sq ((Fl.nxs (B2 modM (B2 m__law_cell_at (some v_script) (some (3 : Int))) (some (7 : Int)))) : Option (Fl Bool Int)) fun (v_way_4 : Int) =>
(Fl.sq ((BIf (B2 (fun i j => some (decide (i < j))) (some v_way_4) (some (5 : Int)))
(Fl.mp (fun (v_ties_6 : (List (Int × Int))) => ((v_1.1, v_ties_6) : (Int × (List (Int × Int)))))
((Fl.nxs (B3 m__law_spoilt (some s2) (some v_way_4) (B1 m__law_next (B2 m__law_cell_at (some v_script) (some (4 : Int)))))) : Option (Fl Bool (List (Int × Int)))))
(Fl.sq ((Fl.nxs (B2 modM (B2 m__law_cell_at (some v_script) (some (4 : Int))) (some (93 : Int)))) : Option (Fl Bool Int)) fun (v_far_7 : Int) =>
(Fl.sq ((BIf (B2 (fun i j => some (decide (i = j))) (B2 modM (B2 divM (B2 m__law_cell_at (some v_script) (some (5 : Int))) (some (4 : Int))) (some (4 : Int))) (some (1 : Int)))
(Fl.mp (fun (v_ties_9 : (List (Int × Int))) => (v_ties_9 : ((List (Int × Int)))))
((Fl.nxs (some ([] : List (Int × Int)))) : Option (Fl Bool (List (Int × Int)))))
(some (Fl.nx s2))) : Option (Fl Bool ((List (Int × Int))))) fun (s8 : ((List (Int × Int)))) =>
(Fl.mp (fun (v_points_10 : Int) => ((v_points_10, s8) : (Int × (List (Int × Int)))))
((Fl.nxs (B2 atI (B2 (fun a l => some (a :: l)) (B1 (fun i => some (-i)) (some (1 : Int))) (B2 (fun a l => some (a :: l)) (some (8 : Int)) (B2 (fun a l => some (a :: l)) (B2 (fun i j => some (i - j)) (B1 (fun i => some (-i)) (some (1 : Int))) (some v_far_7)) (B2 (fun a l => some (a :: l)) (B2 (fun i j => some (i + j)) (some (8 : Int)) (some v_far_7)) (some []))))) (B2 modM (B2 m__law_cell_at (some v_script) (some (5 : Int))) (some (4 : Int))))) : Option (Fl Bool Int)))))) : Option (Fl Bool (Int × (List (Int × Int))))) fun (s5 : (Int × (List (Int × Int)))) =>
(Fl.sq ((Fl.nxs (B2 modM (B2 m__law_cell_at (some v_script) (some (6 : Int))) (some (18 : Int)))) : Option (Fl Bool Int)) fun (v_which_11 : Int) =>
(Fl.sq ((Fl.nxs (B1 (compL (fun (x12 : Int) => (some true)) (fun (x12 : Int) => (some (0 : Int)))) (B1 range1 (B2 (fun i j => some (if j > i then j else i)) (some (0 : Int)) (some s5.1))))) : Option (Fl Bool (List Int))) fun (v_tints_13 : (List Int)) =>
(Fl.sq ((Fl.nxs (some s5.2)) : Option (Fl Bool (List (Int × Int)))) fun (v_handed_14 : (List (Int × Int))) =>
(Fl.sq ((tryM (["NoWeb"] : List Str)
(Fl.sq ((Fl.nxs ((B3 m__law_first_eight (some v_which_11) (some s5.1) (some v_handed_14)).map fun _ => ())) : Option (Fl Bool Unit)) fun (u16 : Unit) =>
(Fl.mp (fun (u17 : Unit) => (() : Unit))
((Fl.nxs ((B4 m__law_others (some v_which_11) (some s5.1) (some v_handed_14) (some v_tints_13)).map fun _ => ())) : Option (Fl Bool Unit))))
(Option.or (B3 x__law_first_eight (some v_which_11) (some s5.1) (some v_handed_14))
(sqX ((Fl.nxs ((B3 m__law_first_eight (some v_which_11) (some s5.1) (some v_handed_14)).map fun _ => ())) : Option (Fl Bool Unit)) fun (u18 : Unit) =>
(B4 x__law_others (some v_which_11) (some s5.1) (some v_handed_14) (some v_tints_13))))
(fun (xn : Str) =>
(Fl.sq ((Fl.nxs (BOr (some (decide (xn = "GoesRound"))) (BOr (some (decide (xn = "NoDyeing"))) (some (decide (xn = "NoNote")))))) : Option (Fl Bool Bool)) fun (v_other_19 : Bool) =>
(Fl.sq ((Fl.nxs (BOr (some v_other_19) (BOr (some (decide (xn = "NoSetting"))) (some (decide (xn = "NoTie")))))) : Option (Fl Bool Bool)) fun (v_other_20 : Bool) =>
((Fl.rts (BAnd (some (decide (xn = "NoWeb"))) (BAnd (some true) (BAnd (BNot (some v_other_20)) (B2 eqM (some v_handed_14) (some s5.2)))))) : Option (Fl Bool Unit)))))) : Option (Fl Bool Unit)) fun (s15 : Unit) =>
((Fl.rts (some false)) : Option (Fl Bool Unit))))))))))
noncomputable def m_law (v_script : (List Int)) : Option Bool := fin (b_law v_script)
end Toy

namespace Toy
open PySem L2
@[simp] theorem nm_01 : (("NoWeb" : Str) = "NoTie") = False := eq_false (by decide)
@[simp] theorem nm_02 : (("NoWeb" : Str) = "NoDyeing") = False := eq_false (by decide)
@[simp] theorem nm_03 : (("NoWeb" : Str) = "NoSetting") = False := eq_false (by decide)
@[simp] theorem nm_04 : (("NoWeb" : Str) = "GoesRound") = False := eq_false (by decide)
@[simp] theorem nm_05 : (("NoWeb" : Str) = "NoNote") = False := eq_false (by decide)
@[simp] theorem nm_10 : (("NoTie" : Str) = "NoWeb") = False := eq_false (by decide)
@[simp] theorem nm_12 : (("NoTie" : Str) = "NoDyeing") = False := eq_false (by decide)
@[simp] theorem nm_13 : (("NoTie" : Str) = "NoSetting") = False := eq_false (by decide)
@[simp] theorem nm_14 : (("NoTie" : Str) = "GoesRound") = False := eq_false (by decide)
@[simp] theorem nm_15 : (("NoTie" : Str) = "NoNote") = False := eq_false (by decide)
@[simp] theorem nm_20 : (("NoDyeing" : Str) = "NoWeb") = False := eq_false (by decide)
@[simp] theorem nm_21 : (("NoDyeing" : Str) = "NoTie") = False := eq_false (by decide)
@[simp] theorem nm_23 : (("NoDyeing" : Str) = "NoSetting") = False := eq_false (by decide)
@[simp] theorem nm_24 : (("NoDyeing" : Str) = "GoesRound") = False := eq_false (by decide)
@[simp] theorem nm_25 : (("NoDyeing" : Str) = "NoNote") = False := eq_false (by decide)
@[simp] theorem nm_30 : (("NoSetting" : Str) = "NoWeb") = False := eq_false (by decide)
@[simp] theorem nm_31 : (("NoSetting" : Str) = "NoTie") = False := eq_false (by decide)
@[simp] theorem nm_32 : (("NoSetting" : Str) = "NoDyeing") = False := eq_false (by decide)
@[simp] theorem nm_34 : (("NoSetting" : Str) = "GoesRound") = False := eq_false (by decide)
@[simp] theorem nm_35 : (("NoSetting" : Str) = "NoNote") = False := eq_false (by decide)
@[simp] theorem nm_40 : (("GoesRound" : Str) = "NoWeb") = False := eq_false (by decide)
@[simp] theorem nm_41 : (("GoesRound" : Str) = "NoTie") = False := eq_false (by decide)
@[simp] theorem nm_42 : (("GoesRound" : Str) = "NoDyeing") = False := eq_false (by decide)
@[simp] theorem nm_43 : (("GoesRound" : Str) = "NoSetting") = False := eq_false (by decide)
@[simp] theorem nm_45 : (("GoesRound" : Str) = "NoNote") = False := eq_false (by decide)
@[simp] theorem nm_50 : (("NoNote" : Str) = "NoWeb") = False := eq_false (by decide)
@[simp] theorem nm_51 : (("NoNote" : Str) = "NoTie") = False := eq_false (by decide)
@[simp] theorem nm_52 : (("NoNote" : Str) = "NoDyeing") = False := eq_false (by decide)
@[simp] theorem nm_53 : (("NoNote" : Str) = "NoSetting") = False := eq_false (by decide)
@[simp] theorem nm_54 : (("NoNote" : Str) = "GoesRound") = False := eq_false (by decide)
end Toy

namespace Toy
open PySem L2
/-! the drawn web -/
noncomputable def cell (ns : List Int) (k : Nat) : Int := ns.getD k 0
noncomputable def nextV (s : Int) : Int := (s * 48271 + 12345) % 2147483647
structure WebOk (pts : Int) (l : List (Int × Int)) : Prop where
  rise : l.Pairwise fun p q => ltP p q = true
  pts : ∀ p ∈ l, 0 ≤ p.1 ∧ p.1 < p.2 ∧ p.2 < pts
theorem ltP_iff {p q : Int × Int} : ltP p q = true ↔ (p.1 < q.1 ∨ (p.1 = q.1 ∧ p.2 < q.2)) := by unfold ltP; exact decide_eq_true_iff
theorem cell_at_eq (ns : List Int) (k : Int) (h : 0 ≤ k) : m__law_cell_at ns k = some (cell ns k.toNat) := by
  unfold m__law_cell_at b__law_cell_at
  by_cases c : k < ns.length
  · have e := atI_of (l := ns) 0 h c
    simp [c, e, cell]
  · have e : cell ns k.toNat = 0 := by
      have : ns[k.toNat]? = none := List.getElem?_eq_none (by omega)
      simp [cell, List.getD, this]
    simp [c, e]
theorem next_eq (s : Int) : m__law_next s = some (nextV s) := by
  unfold m__law_next b__law_next
  have e := mulM_r (i := s) (j := 48271) (by decide) (by decide)
  have e2 := modM_of (i := s * 48271 + 12345) (j := 2147483647) (by decide)
  simp [e, e2, nextV]
theorem dm {c a b : Int} (ha : 0 < a) (h2 : a.natAbs.log2 < 9000) (hb : 0 < b) : B2 modM (B2 divM (some c) (some a)) (some b) = some (c / a % b) := by
  rw [show B2 divM (some c) (some a) = some (c / a) from divM_of ha h2]; exact modM_of hb
theorem go {ρ τ τ' : Type} {m : Option τ} {a : τ} {f : τ → Option (Fl ρ τ')} {r : Option ρ} (h : m = some a) (k : fin (f a) = r) : fin (Fl.sq (Fl.nxs m) f) = r := by rw [h]; exact k
theorem goB {ρ τ τ' : Type} {m : Option (Fl ρ τ)} {a : τ} {f : τ → Option (Fl ρ τ')} {r : Option ρ} (h : m = some (.nx a)) (k : fin (f a) = r) : fin (Fl.sq m f) = r := by rw [h]; exact k
theorem web_push {pts x y : Int} {l : List (Int × Int)} (hw : WebOk pts l) (h0 : 0 ≤ x) (h1 : x < y) (h2 : y < pts) (hb : ∀ p ∈ l, p.1 < x ∨ (p.1 = x ∧ p.2 < y)) : WebOk pts (l ++ [(x, y)]) :=
  ⟨List.pairwise_append.mpr ⟨hw.rise, List.pairwise_singleton _ _, fun p hp q hq => by rw [List.mem_singleton.mp hq]; exact ltP_iff.mpr (hb p hp)⟩, fun p hp => (List.mem_append.mp hp).elim (hw.pts p) fun hp => by rw [List.mem_singleton.mp hp]; exact ⟨h0, h1, h2⟩⟩
theorem turnE {s : Int × List (Int × Int)} {thick cap x y : Int} (hl : s.2.length < 1000) : ∃ s' : Int × List (Int × Int),
    (Fl.sq ((BIf (BAnd (B2 (fun i j => some (decide (i < j))) (B2 modM (B2 divM (some s.1) (some (16 : Int))) (some (4 : Int))) (some thick)) (B2 (fun i j => some (decide (i < j))) (B1 (fun l => some (l.length : Int)) (some s.2)) (some cap)))
      (Fl.mp (fun (v_ties_10 : (List (Int × Int))) => (v_ties_10 : ((List (Int × Int)))))
      ((Fl.nxs ((B2 (fun a b => some (a, b)) (some x) (some y)).bind fun x => pushM s.2 x)) : Option (Fl (Int × (List (Int × Int))) (List (Int × Int)))))
      (some (Fl.nx s.2))) : Option (Fl (Int × (List (Int × Int))) ((List (Int × Int))))) fun (s9 : ((List (Int × Int)))) =>
      (Fl.mp (fun (v_seed_11 : Int) => ((v_seed_11, s9) : (Int × (List (Int × Int)))))
      ((Fl.nxs (B1 m__law_next (some s.1))) : Option (Fl (Int × (List (Int × Int))) Int)))) = some (.nx s') ∧ (s'.2 = s.2 ∨ (s'.2 = s.2 ++ [(x, y)] ∧ (s.2.length : Int) < cap)) := by
  rw [dm (by decide) (by decide) (by decide), show B1 m__law_next (some s.1) = some (nextV s.1) from next_eq _]
  show ∃ s' : Int × List (Int × Int), Fl.sq (BIf (BAnd (some (decide (s.1 / 16 % 4 < thick))) (some (decide ((s.2.length : Int) < cap)))) (Fl.mp (fun v => v) (Fl.nxs (pushM s.2 (x, y)))) _) _ = _ ∧ _
  cases decide (s.1 / 16 % 4 < thick) with
  | false => exact ⟨_, rfl, .inl rfl⟩
  | true =>
    by_cases c : (s.2.length : Int) < cap
    · rw [decide_eq_true c, pushM_of hl]; exact ⟨_, rfl, .inr ⟨rfl, c⟩⟩
    · rw [decide_eq_false c]; exact ⟨_, rfl, .inl rfl⟩
theorem mpE {ρ τ τ' : Type} {m : Option (Fl ρ τ)} {s : τ} {g : τ → τ'} (h : m = some (.nx s)) : Fl.mp g m = some (.nx (g s)) := by rw [h]; rfl
theorem loopE (pts thick cap seed : Int) (hp0 : 0 ≤ pts) (hp1 : pts ≤ 50) (h0 : 0 ≤ cap) (hc : cap ≤ 50) : ∃ s' : Int × List (Int × Int),
    ((B1 range1 (some pts)).bind fun l => forM (fun (x6 : Int) (s5 : (Int × (List (Int × Int)))) =>
      (Fl.mp (fun (s12 : (Int × (List (Int × Int)))) => ((s12.1, s12.2) : (Int × (List (Int × Int)))))
      (((B2 range2 (B2 (fun i j => some (i + j)) (some x6) (some (1 : Int))) (some pts)).bind fun l => forM (fun (x8 : Int) (s7 : (Int × (List (Int × Int)))) =>
      (Fl.sq ((BIf (BAnd (B2 (fun i j => some (decide (i < j))) (B2 modM (B2 divM (some s7.1) (some (16 : Int))) (some (4 : Int))) (some thick)) (B2 (fun i j => some (decide (i < j))) (B1 (fun l => some (l.length : Int)) (some s7.2)) (some cap)))
      (Fl.mp (fun (v_ties_10 : (List (Int × Int))) => (v_ties_10 : ((List (Int × Int)))))
      ((Fl.nxs ((B2 (fun a b => some (a, b)) (some x6) (some x8)).bind fun x => pushM s7.2 x)) : Option (Fl (Int × (List (Int × Int))) (List (Int × Int)))))
      (some (Fl.nx s7.2))) : Option (Fl (Int × (List (Int × Int))) ((List (Int × Int))))) fun (s9 : ((List (Int × Int)))) =>
      (Fl.mp (fun (v_seed_11 : Int) => ((v_seed_11, s9) : (Int × (List (Int × Int)))))
      ((Fl.nxs (B1 m__law_next (some s7.1))) : Option (Fl (Int × (List (Int × Int))) Int))))) l (s5.1, s5.2)) : Option (Fl (Int × (List (Int × Int))) (Int × (List (Int × Int))))))) l (seed, ([] : List (Int × Int)))) = some (.nx s') ∧ WebOk pts s'.2 ∧ (s'.2.length : Int) ≤ cap := by
  rw [show B1 range1 (some pts) = some (rangeI 0 pts.toNat) from range1_of (by omega) (by omega)]
  refine (forM_inv (rangeI 0 pts.toNat) (fun i (s : Int × List (Int × Int)) => WebOk pts s.2 ∧ (s.2.length : Int) ≤ cap ∧ ∀ p ∈ s.2, p.1 < i) (seed, []) ⟨⟨.nil, fun p hp => nomatch hp⟩, h0, fun p hp => nomatch hp⟩ ?_).imp fun s' h => ⟨h.1, h.2.1, h.2.2.1⟩
  rintro i x s hx ⟨hw, hlen, hlo⟩
  obtain ⟨e, hi⟩ := rangeI_get hx
  have hx0 : 0 ≤ x ∧ x < pts ∧ x = i := by omega
  rw [show B2 range2 (B2 (fun i j => some (i + j)) (some x) (some (1 : Int))) (some pts) = some (rangeI (x + 1) (pts - (x + 1)).toNat) from range2_of (by omega) (by omega) (by omega) (by omega)]
  refine (forM_inv (rangeI (x + 1) (pts - (x + 1)).toNat) (fun j (s : Int × List (Int × Int)) => WebOk pts s.2 ∧ (s.2.length : Int) ≤ cap ∧ ∀ p ∈ s.2, p.1 < x ∨ (p.1 = x ∧ p.2 < x + 1 + j)) (s.1, s.2) ⟨hw, hlen, fun p hp => .inl (hx0.2.2 ▸ hlo p hp)⟩ ?_).imp fun s' h => ⟨mpE h.1, h.2.1, h.2.2.1, fun p hp => by have := h.2.2.2 p hp; omega⟩
  rintro j y s2 hy ⟨hw2, hlen2, hlo2⟩
  obtain ⟨ey, hj⟩ := rangeI_get hy
  obtain ⟨s', q, z⟩ := turnE (s := s2) (thick := thick) (cap := cap) (x := x) (y := y) (by omega)
  refine ⟨s', q, ?_⟩
  have hy1 : x < y ∧ y < pts ∧ y < x + 1 + ((j + 1 : Nat) : Int) := by omega
  have hb : ∀ p ∈ s2.2, p.1 < x ∨ (p.1 = x ∧ p.2 < y) := ey ▸ hlo2
  have up : ∀ p ∈ s2.2, p.1 < x ∨ (p.1 = x ∧ p.2 < x + 1 + ((j + 1 : Nat) : Int)) := fun p hp => (hb p hp).imp id fun h => ⟨h.1, Int.lt_trans h.2 hy1.2.2⟩
  rcases z with z | ⟨z, hc'⟩ <;> rw [z]
  · exact ⟨hw2, hlen2, up⟩
  · exact ⟨web_push hw2 hx0.1 hy1.1 hy1.2.1 hb, by rw [List.length_append]; exact Int.add_one_le_of_lt hc', fun p hp => (List.mem_append.mp hp).elim (up p) fun hp => by rw [List.mem_singleton.mp hp]; exact .inr ⟨rfl, hy1.2.2⟩⟩
theorem modc (ns : List Int) {i j : Int} (hi : 0 ≤ i) (hj : 0 < j) : B2 modM (B2 m__law_cell_at (some ns) (some i)) (some j) = some (cell ns i.toNat % j) := by
  rw [show B2 m__law_cell_at (some ns) (some i) = some (cell ns i.toNat) from cell_at_eq ns i hi]; exact modM_of hj
theorem nextc (ns : List Int) {i : Int} (hi : 0 ≤ i) : B1 m__law_next (B2 m__law_cell_at (some ns) (some i)) = some (nextV (cell ns i.toNat)) := by
  rw [show B2 m__law_cell_at (some ns) (some i) = some (cell ns i.toNat) from cell_at_eq ns i hi]; exact next_eq _
theorem plusE {o : Option Int} {a b : Int} (h : o = some b) : B2 (fun i j => some (i + j)) (some a) o = some (a + b) := by rw [h]; rfl
theorem web_by_eq (ns : List Int) : ∃ pts l, m__law_web_by ns 0 7 12 = some (pts, l) ∧ pts = cell ns 0 % 8 ∧ 0 ≤ pts ∧ pts ≤ 7 ∧ WebOk pts l ∧ (l.length : Int) ≤ 12 := by
  have hp0 := Int.emod_nonneg (cell ns 0) (show (8 : Int) ≠ 0 by decide)
  have hp1 := Int.le_of_lt_add_one (Int.emod_lt_of_pos (cell ns 0) (show (0 : Int) < 7 + 1 by decide))
  obtain ⟨s', h1, hw, hl⟩ := loopE (cell ns 0 % 8) (1 + cell ns 2 % 4) 12 (nextV (cell ns 1)) hp0 (Int.le_trans hp1 (by decide)) (by decide) (by decide)
  exact ⟨_, s'.2, go (modc ns (i := 0) (j := 8) (by decide) (by decide)) (go (nextc ns (i := 1) (by decide)) (go (plusE (a := 1) (modc ns (i := 2) (j := 4) (by decide) (by decide))) (go rfl (goB h1 rfl)))), rfl, hp0, hp1, hw, hl⟩
end Toy

namespace Toy
open PySem L2
/-! webs.py: is_web -/
noncomputable def joinV (pts : Int) (l : List (Int × Int)) : Bool := l.all fun p => decide (0 ≤ p.1) && (decide (p.1 < p.2) && decide (p.2 < pts))
noncomputable def riseV (l : List (Int × Int)) : Bool := (rangeI 1 (l.length - 1)).all fun i => ltP (l.getD (i - 1).toNat (0, 0)) (l.getD i.toNat (0, 0))
noncomputable def isWebV (pts : Int) (l : List (Int × Int)) : Bool := !(decide (pts < 0) || (decide (7 < pts) || decide (12 < (l.length : Int)))) && (joinV pts l && riseV l)
theorem join_eq (pts : Int) (l : List (Int × Int)) (h : l.length ≤ 1000) : m_ties_join_points pts l = some (joinV pts l) := by
  unfold m_ties_join_points b_ties_join_points
  simp only [B1, B2, BAnd, Option.bind_some]
  rw [compL_map (fun p => decide (0 ≤ p.1) && (decide (p.1 < p.2) && decide (p.2 < pts))) l h fun p _ => by
    by_cases a : 0 ≤ p.1 <;> by_cases b : p.1 < p.2 <;> simp [a, b]]
  simp [joinV, List.all_map, Function.comp_def]
theorem rise_eq (l : List (Int × Int)) (h : l.length ≤ 1000) : m_ties_rise l = some (riseV l) := by
  unfold m_ties_rise b_ties_rise
  simp only [B1, B2, Option.bind_some]
  rw [range2_of (by omega) (by omega) (by omega) (by omega), Option.bind_some]
  have hn : ((l.length : Int) - 1).toNat = l.length - 1 := by omega
  rw [hn]
  rw [compL_map (fun i : Int => ltP (l.getD (i - 1).toNat (0, 0)) (l.getD i.toNat (0, 0))) _ (by rw [rangeI_len]; omega) fun i hi => by
    have hi' := mem_rangeI.mp hi
    rw [atI_of (0, 0) (by omega) (by omega), atI_of (0, 0) (by omega) (by omega)]; rfl]
  simp [riseV, List.all_map, Function.comp_def]
theorem is_web_eq (pts : Int) (l : List (Int × Int)) (h : l.length ≤ 1000) : m_is_web pts l = some (isWebV pts l) := by
  unfold m_is_web b_is_web
  simp only [B1, B2, BIf, BAnd, BOr, Option.bind_some, join_eq pts l h, rise_eq l h]
  unfold isWebV
  by_cases a : pts < 0
  · simp [a]
  · by_cases b : 7 < pts
    · simp [a, b]
    · by_cases c : 12 < (l.length : Int)
      · simp [a, b, c]
      · cases joinV pts l <;> simp [a, b, c]
theorem getD_mem {α : Type} {l : List α} {d : α} {k : Nat} (hk : k < l.length) : l.getD k d ∈ l := by
  have : l.getD k d = l[k] := by simp [List.getD, hk]
  rw [this]; exact List.getElem_mem hk
theorem lt3 {a b c d e f : Int} (h1 : a < c ∨ (a = c ∧ b < d)) (h2 : c < e ∨ (c = e ∧ d < f)) : a < e ∨ (a = e ∧ b < f) := by
  rcases h1 with h | ⟨rfl, h⟩
  · rcases h2 with k | ⟨rfl, k⟩
    · exact .inl (Int.lt_trans h k)
    · exact .inl h
  · exact h2.imp id fun ⟨e, k⟩ => ⟨e, Int.lt_trans h k⟩
theorem getD_get {l : List (Int × Int)} {i : Nat} (h : i < l.length) : l.getD i (0, 0) = l[i] := by rw [List.getD_eq_getElem?_getD, List.getElem?_eq_getElem h]; rfl
theorem rise_pairwise {l : List (Int × Int)} (h : riseV l = true) : l.Pairwise fun p q => ltP p q = true := by
  have st : ∀ j, j + 1 < l.length → ltP (l.getD j (0, 0)) (l.getD (j + 1) (0, 0)) = true := fun j h2 => by
    have st := List.all_eq_true.mp h ((j + 1 : Nat) : Int) (mem_rangeI.mpr (by omega))
    rw [show (((j + 1 : Nat) : Int) - 1).toNat = j by omega] at st
    exact st
  have key : ∀ i j, i < j → j < l.length → ltP (l.getD i (0, 0)) (l.getD j (0, 0)) = true := fun i j => by
    induction j with
    | zero => exact fun h1 => absurd h1 (Nat.not_lt_zero _)
    | succ j ih =>
      intro h1 h2
      rcases Nat.lt_or_eq_of_le (Nat.le_of_lt_succ h1) with e | rfl
      · exact ltP_iff.mpr (lt3 (ltP_iff.mp (ih e (Nat.lt_of_succ_lt h2))) (ltP_iff.mp (st j h2)))
      · exact st i h2
  exact List.pairwise_iff_getElem.mpr fun i j hi hj hij => getD_get hi ▸ getD_get hj ▸ key i j hij hj
theorem isWeb_of {pts : Int} {l : List (Int × Int)} (h : isWebV pts l = true) : (0 ≤ pts ∧ pts ≤ 7 ∧ l.length ≤ 12) ∧ WebOk pts l := by
  unfold isWebV joinV at h
  simp only [Bool.and_eq_true, Bool.not_eq_true', Bool.or_eq_false_iff, decide_eq_false_iff_not, decide_eq_true_eq, List.all_eq_true] at h
  obtain ⟨⟨h1, h2, h3⟩, h4, h5⟩ := h
  exact ⟨⟨Int.not_lt.mp h1, Int.not_lt.mp h2, Int.ofNat_le.mp (Int.not_lt.mp h3)⟩, rise_pairwise h5, h4⟩
end Toy
namespace Toy
open PySem L2
theorem refuse_eq {pts : Int} {l : List (Int × Int)} (h : isWebV pts l = true) : m_refuse_no_web pts l = some () := by
  unfold m_refuse_no_web b_refuse_no_web
  simp [is_web_eq pts l (Nat.le_trans (isWeb_of h).1.2.2 (by decide)), h]
theorem x_refuse {pts : Int} {l : List (Int × Int)} (hl : l.length ≤ 1000) : x_refuse_no_web pts l = if isWebV pts l = true then none else some "NoWeb" := by
  unfold x_refuse_no_web x_refuse_no_web_0
  cases h : isWebV pts l <;> simp [is_web_eq pts l hl, h]
end Toy
namespace Toy
open PySem L2
/-! no web -/
theorem no_web {pts : Int} {l : List (Int × Int)} (h : ¬ WebOk pts l) : isWebV pts l = false := by
  cases e : isWebV pts l with
  | false => rfl
  | true => exact absurd (isWeb_of e).2 h
theorem no_web_pts {pts : Int} {l : List (Int × Int)} (h : pts < 0 ∨ 7 < pts) : isWebV pts l = false := by
  cases e : isWebV pts l with
  | false => rfl
  | true => have := (isWeb_of e).1; omega
theorem ltP_irr (p : Int × Int) : ltP p p = false := by
  cases e : ltP p p with
  | false => rfl
  | true => rw [ltP_iff] at e; omega
/-- two alike in a row: no web -/
theorem dup_no {pts : Int} {a b : List (Int × Int)} {t : Int × Int} : ¬ WebOk pts (a ++ t :: t :: b) := fun h => by
  have p := (List.pairwise_append.mp h.rise).2.1
  have := (List.pairwise_cons.mp p).1 t (by simp)
  rw [ltP_irr] at this; cases this
theorem mem_no {pts : Int} {a b : List (Int × Int)} {t : Int × Int} (h : ¬ (0 ≤ t.1 ∧ t.1 < t.2 ∧ t.2 < pts)) : ¬ WebOk pts (a ++ t :: b) := fun w => h (w.pts t (by simp))
theorem twice_no {pts : Int} {l : List (Int × Int)} (h : l ≠ []) : ¬ WebOk pts (l ++ l) := fun w => by
  obtain ⟨t, ht⟩ := List.exists_mem_of_ne_nil l h
  have := (List.pairwise_append.mp w.rise).2.2 t ht t ht
  rw [ltP_irr] at this; cases this
theorem wayT {ρ τ : Type} {c : Option Bool} {X : Option ρ} {n : Option (Fl ρ Unit)} {f : Unit → Option (Fl ρ τ)} {r : ρ} (hc : c = some true) (h : X = some r) : fin (Fl.sq (BIf c (Fl.rts X) n) f) = some r := by rw [hc, h]; rfl
theorem wayF {ρ τ : Type} {c : Option Bool} {m : Option (Fl ρ Unit)} {f : Unit → Option (Fl ρ τ)} {r : Option ρ} (hc : c = some false) (h : fin (f ()) = r) : fin (Fl.sq (BIf c m (some (.nx ()))) f) = r := by rw [hc]; exact h
theorem wayE {ρ τ : Type} {X : Option ρ} {r : ρ} (h : X = some r) : fin (Fl.rts X : Option (Fl ρ τ)) = some r := by rw [h]; rfl
theorem badE {a : Option (Int × Int)} {t : Int × Int} {u v : Option Int} {x y : Int} (ha : a = some t) (hu : u = some x) (hv : v = some y) :
    B2 atI (B2 (fun a l => some (a :: l)) (B2 (fun a b => some (a, b)) (B1 (fun i => some (-i)) (some (1 : Int))) (a.map Prod.snd)) (B2 (fun a l => some (a :: l)) (B2 (fun a b => some (a, b)) (a.map Prod.fst) (B2 (fun i j => some (i + j)) (some (7 : Int)) u)) (B2 (fun a l => some (a :: l)) (B2 (fun a b => some (a, b)) (a.map Prod.fst) (a.map Prod.fst)) (some [])))) v
      = atI [((-1 : Int), t.2), (t.1, 7 + x), (t.1, t.1)] y := by subst ha hu hv; rfl
theorem stp {P : Int → Prop} {a b : Int} (ha : P a) (h : ∀ w, a + 1 ≤ w → w < b → P w) : ∀ w, a ≤ w → w < b → P w := fun w h0 h1 => by
  rcases Int.lt_or_eq_of_le h0 with e | e
  · exact h w e h1
  · exact e ▸ ha
theorem stp0 {P : Int → Prop} {b : Int} : ∀ w, b ≤ w → w < b → P w := fun w h0 h1 => absurd h1 (Int.not_lt.mpr h0)
theorem bad3 {pts x : Int} {t : Int × Int} (hx : 0 ≤ x) (hp : pts ≤ 7) : ∀ y : Int, 0 ≤ y → y < 3 → ∃ bad, atI [((-1 : Int), t.2), (t.1, 7 + x), (t.1, t.1)] y = some bad ∧ ¬ (0 ≤ bad.1 ∧ bad.1 < bad.2 ∧ bad.2 < pts) :=
  stp (a := 0) ⟨_, atI_nat (j := 0) rfl, fun h => absurd h.1 (show ¬ (0 : Int) ≤ -1 by decide)⟩
  (stp (a := 1) ⟨_, atI_nat (j := 1) rfl, fun h => absurd (Int.lt_of_lt_of_le h.2.2 hp) (Int.not_lt.mpr (Int.le_add_of_nonneg_right hx))⟩
  (stp (a := 2) ⟨_, atI_nat (j := 2) rfl, fun h => absurd h.2.1 (Int.lt_irrefl _)⟩ (stp0 (b := 3))))
theorem oneE {α : Type} {o : Option α} {t : α} (h : o = some t) : B2 (fun a l => some (a :: l)) o (some []) = some [t] := by rw [h]; rfl
theorem swapE {o : Option (Int × Int)} {t : Int × Int} (h : o = some t) : B2 (fun a b => some (a, b)) (o.map Prod.snd) (o.map Prod.fst) = some (t.2, t.1) := by rw [h]; rfl
theorem le3 {α : Type} {a c : List α} {t : α} (ha : a.length ≤ 50) (hc : c.length ≤ 50) : (a ++ [t] ++ c).length ≤ 200 := by
  rw [List.length_append, List.length_append]
  exact Nat.le_trans (Nat.add_le_add (Nat.add_le_add_right ha 1) hc) (by decide)
theorem le2 {α : Type} {a c : List α} (ha : a.length ≤ 50) (hc : c.length ≤ 50) : a.length + c.length ≤ 100 := Nat.add_le_add ha hc
theorem cat3 {α : Type} {a c : List α} {T : Option (List α)} {t : α} (hT : T = some [t]) (ha : a.length ≤ 50) (hc : c.length ≤ 50) : B2 catM (B2 catM (some a) T) (some c) = some (a ++ [t] ++ c) := by
  rw [hT, show B2 catM (some a) (some [t]) = some (a ++ [t]) from catM_of (Nat.le_trans (Nat.add_le_add_right ha 1) (by decide))]
  exact catM_of (Nat.le_trans (List.length_append ▸ le3 ha hc) (by decide))
theorem catR {α : Type} {l m : List α} (h : l.length + m.length ≤ 1000) : B2 catM (revM l (-1)) (some m) = some (l.reverse ++ m) := by
  rw [revM_of]; exact catM_of (by rw [List.length_reverse]; exact h)
theorem head_no {pts : Int} : ∀ {l : List (Int × Int)}, l ≠ [] → ¬ WebOk pts (l.reverse ++ cutA l none (some 1))
  | [], h => absurd rfl h
  | x :: xs, _ => by
    rw [List.reverse_cons, cutA_take (l := x :: xs) (k := 1) (by decide) (Int.ofNat_le.mpr (Nat.succ_le_succ (Nat.zero_le _))), show (x :: xs).take (1 : Int).toNat = [x] from rfl, List.append_assoc]
    exact dup_no (a := xs.reverse) (b := [])
theorem spoilt_eq {pts : Int} {l : List (Int × Int)} (way c : Int) (hw : WebOk pts l) (hp : pts ≤ 7) (hne : l ≠ []) (hl : l.length ≤ 50) (h0 : 0 ≤ way) (h5 : way < 5) : ∃ m, m__law_spoilt l way c = some m ∧ m.length ≤ 200 ∧ ¬ WebOk pts m := by
  have hpos : (0 : Int) < (l.length : Int) := Int.natCast_pos.mpr (List.length_pos_iff.mpr hne)
  have at0 := Int.emod_nonneg c (Int.ne_of_gt hpos)
  have at1 := Int.emod_lt_of_pos c hpos
  have d1 : modM c l.length = some (c % l.length) := modM_of hpos
  generalize c % (l.length : Int) = k at d1 at0 at1
  have hk : k.toNat < l.length := by omega
  have e0 : atI l k = some (l.getD k.toNat (0, 0)) := atI_of (0, 0) at0 at1
  have hm := hw.pts _ (getD_mem (d := (0, 0)) hk)
  have hdr : cutA l (some k) none = l.getD k.toNat (0, 0) :: l.drop (k.toNat + 1) := by rw [cutA_drop at0 (Int.le_of_lt at1), getD_get hk, List.drop_eq_getElem_cons hk]
  generalize l.getD k.toNat (0, 0) = t at e0 hm hdr
  obtain ⟨bad, hb, hbad⟩ := bad3 (x := c / 64 % 90) (t := t) (Int.emod_nonneg _ (by decide)) hp (c / 16 % 3) (Int.emod_nonneg _ (by decide)) (Int.emod_lt_of_pos _ (by decide))
  have hB := (badE e0 (dm (c := c) (a := 64) (b := 90) (by decide) (by decide) (by decide)) (dm (c := c) (a := 16) (b := 3) (by decide) (by decide) (by decide))).trans hb
  have hc : ∀ {a b : Option Int}, (cutA l a b).length ≤ 50 := Nat.le_trans cutA_len hl
  refine stp (P := fun way => ∃ m, m__law_spoilt l way c = some m ∧ m.length ≤ 200 ∧ ¬ WebOk pts m) (a := 0) ?_ (stp (a := 1) ?_ (stp (a := 2) ?_ (stp (a := 3) ?_ (stp (a := 4) ?_ (stp0 (b := 5)))))) way h0 h5
  · exact ⟨_, go d1 (go hB (wayT rfl (cat3 (oneE e0) hc hc))), le3 hc hc, by rw [hdr, List.append_assoc]; exact dup_no⟩
  · exact ⟨_, go d1 (go hB (wayF rfl (wayT rfl (cat3 (oneE (swapE e0)) hc hc)))), le3 hc hc, by rw [List.append_assoc]; exact mem_no fun h => absurd h.2.1 (Int.not_lt.mpr (Int.le_of_lt hm.2.1))⟩
  · exact ⟨_, go d1 (go hB (wayF rfl (wayF rfl (wayT rfl (cat3 rfl hc hc))))), le3 hc hc, by rw [List.append_assoc]; exact mem_no hbad⟩
  · exact ⟨_, go d1 (go hB (wayF rfl (wayF rfl (wayF rfl (wayT rfl (catM_of (Nat.le_trans (le2 hl hl) (by decide)))))))), by rw [List.length_append]; exact Nat.le_trans (le2 hl hl) (by decide), twice_no hne⟩
  · refine ⟨_, go d1 (go hB (wayF rfl (wayF rfl (wayF rfl (wayF rfl (wayE (catR (Nat.le_trans (le2 hl hc) (by decide))))))))), by rw [List.length_append, List.length_reverse]; exact Nat.le_trans (le2 hl hc) (by decide), ?_⟩
    exact head_no hne
/-! each refuses -/
section
variable {pts : Int} {T : List (Int × Int)} (hl : T.length ≤ 1000) (h : isWebV pts T = false)
include hl h
theorem xr : x_refuse_no_web pts T = some "NoWeb" := by rw [x_refuse hl, h]; rfl
theorem x1 : x_pieces pts T = some "NoWeb" := by unfold x_pieces x_pieces_0; simp [B2, xr hl h]
theorem x2 (m : Int) (o : List (Int × Int)) : x_beside pts T m o = some "NoWeb" := by unfold x_beside x_beside_0; simp [B2, xr hl h]
theorem x3 : x_beside 0 [] pts T = some "NoWeb" := by
  have h0 : isWebV 0 [] = true := by decide
  unfold x_beside x_beside_0 x_beside_1
  simp [B2, xr hl h, x_refuse (pts := 0) (l := []) (by simp), h0, refuse_eq h0, sqX]
theorem x4 : x_row pts T = some "NoWeb" := by unfold x_row x_row_0; simp [B2, xr hl h]
theorem x5 (d : List Int) (m : Int) : x_is_dyeing pts T d m = some "NoWeb" := by unfold x_is_dyeing x_is_dyeing_0; simp [B2, xr hl h]
theorem x7 (m : Int) : x_least pts T m = some "NoWeb" := by unfold x_least x_least_0; simp [B2, xr hl h]
theorem x6 : x_fewest pts T = some "NoWeb" := by unfold x_fewest x_fewest_0; simp [B3, x7 hl h, sqX]
theorem x8 : x_shown pts T = some "NoWeb" := by unfold x_shown x_shown_0; simp [B2, xr hl h]
theorem x9 (a : List Bool) : x_refuse_no_setting pts T a = some "NoWeb" := by unfold x_refuse_no_setting x_refuse_no_setting_0; simp [B2, xr hl h]
theorem x10 (a : List Bool) : x_goes_round pts T a = some "NoWeb" := by unfold x_goes_round x_goes_round_0; simp [B3, x9 hl h]
theorem x11 (a : List Bool) : x_ranks pts T a = some "NoWeb" := by unfold x_ranks x_ranks_0; simp [B3, x9 hl h]
theorem x12 (d : List Int) : x_setting_of pts T d = some "NoWeb" := by unfold x_setting_of x_setting_of_0; simp [B2, xr hl h]
theorem x13 : x_flattest pts T = some "NoWeb" := by unfold x_flattest x_flattest_0; simp [B1, B2, x6 hl h]
theorem x14 : x_settings pts T = some "NoWeb" := by unfold x_settings x_settings_0; simp [B2, x4 hl h]
theorem x15 (p : Int) : x_from_spring pts T p = some "NoWeb" := by unfold x_from_spring x_from_spring_0; simp [B2, x4 hl h]
theorem x16 (q : Int) : x_pairs pts T q = some "NoWeb" := by unfold x_pairs x_pairs_0; simp [B2, x4 hl h]
theorem x17 (m : Int) : x_unbroken pts T m = some "NoWeb" := by unfold x_unbroken x_unbroken_0; simp [B2, x4 hl h]
theorem x18 (e : Int × Int) : x_cut pts T e = some "NoWeb" := by unfold x_cut x_cut_0; simp [B2, xr hl h]
theorem x19 (e : Int × Int) : x_merged pts T e = some "NoWeb" := by unfold x_merged x_merged_0; simp [B2, xr hl h]
end
theorem orS {a b : Option Str} {x : Str} (h : a = some x) : Option.or a b = some x := by rw [h]; rfl
theorem orN {a b : Option Str} {x : Str} (h : b = some x) (ha : a = none) : Option.or a b = some x := by rw [h, ha]; rfl
section
variable {pts : Int} {T : List (Int × Int)} {D : List Int} (hl : T.length ≤ 1000) (h : isWebV pts T = false)
include hl h
theorem f0 : x__law_first_eight_0 0 pts T = some "NoWeb" := x1 hl h
theorem f1 : x__law_first_eight_1 1 pts T = some "NoWeb" := x2 hl h 0 []
theorem f2 : x__law_first_eight_2 2 pts T = some "NoWeb" := x3 hl h
theorem f3 : x__law_first_eight_3 3 pts T = some "NoWeb" := x4 hl h
theorem f4 : x__law_first_eight_4 4 pts T = some "NoWeb" := x5 hl h [0] 3
theorem f5 : x__law_first_eight_5 5 pts T = some "NoWeb" := x6 hl h
theorem f6 : x__law_first_eight_6 6 pts T = some "NoWeb" := x7 hl h 2
theorem f7 : x__law_first_eight_7 7 pts T = some "NoWeb" := x8 hl h
theorem first_lt : ∀ w : Int, 0 ≤ w → w < 8 → m__law_first_eight w pts T = none ∧ x__law_first_eight w pts T = some "NoWeb" :=
  stp (a := 0) ⟨rfl, orS (f0 hl h)⟩ (stp (a := 1) ⟨rfl, orN (orS (f1 hl h)) rfl⟩ (stp (a := 2) ⟨rfl, orN (orN (orS (f2 hl h)) rfl) rfl⟩ (stp (a := 3) ⟨rfl, orN (orN (orN (orS (f3 hl h)) rfl) rfl) rfl⟩
    (stp (a := 4) ⟨rfl, orN (orN (orN (orN (orS (f4 hl h)) rfl) rfl) rfl) rfl⟩ (stp (a := 5) ⟨rfl, orN (orN (orN (orN (orN (orS (f5 hl h)) rfl) rfl) rfl) rfl) rfl⟩
    (stp (a := 6) ⟨rfl, orN (orN (orN (orN (orN (orN (orS (f6 hl h)) rfl) rfl) rfl) rfl) rfl) rfl⟩ (stp (a := 7) ⟨rfl, orN (orN (orN (orN (orN (orN (orN (f7 hl h) rfl) rfl) rfl) rfl) rfl) rfl) rfl⟩ (stp0 (b := 8)))))))))
theorem g8 : x__law_others_0 8 pts T D = some "NoWeb" := x10 hl h [true]
theorem g9 : x__law_others_1 9 pts T D = some "NoWeb" := x11 hl h []
theorem g10 : x__law_others_2 10 pts T D = some "NoWeb" := x12 hl h D
theorem g11 : x__law_others_3 11 pts T D = some "NoWeb" := x13 hl h
theorem g12 : x__law_others_4 12 pts T D = some "NoWeb" := x14 hl h
theorem g13 : x__law_others_5 13 pts T D = some "NoWeb" := x15 hl h 0
theorem g14 : x__law_others_6 14 pts T D = some "NoWeb" := x16 hl h 20
theorem g15 : x__law_others_7 15 pts T D = some "NoWeb" := x17 hl h 20
theorem g16 : x__law_others_8 16 pts T D = some "NoWeb" := x18 hl h (5, 4)
theorem g17 : x__law_others_9 17 pts T D = some "NoWeb" := x19 hl h (5, 4)
theorem others_eq : ∀ w : Int, 8 ≤ w → w < 18 → m__law_others w pts T D = none ∧ x__law_others w pts T D = some "NoWeb" :=
  stp (a := 8) ⟨rfl, orS (g8 hl h)⟩ (stp (a := 9) ⟨rfl, orN (orS (g9 hl h)) rfl⟩ (stp (a := 10) ⟨rfl, orN (orN (orS (g10 hl h)) rfl) rfl⟩ (stp (a := 11) ⟨rfl, orN (orN (orN (orS (g11 hl h)) rfl) rfl) rfl⟩ (stp (a := 12) ⟨rfl, orN (orN (orN (orN (orS (g12 hl h)) rfl) rfl) rfl) rfl⟩ (stp (a := 13) ⟨rfl, orN (orN (orN (orN (orN (orS (g13 hl h)) rfl) rfl) rfl) rfl) rfl⟩ (stp (a := 14) ⟨rfl, orN (orN (orN (orN (orN (orN (orS (g14 hl h)) rfl) rfl) rfl) rfl) rfl) rfl⟩ (stp (a := 15) ⟨rfl, orN (orN (orN (orN (orN (orN (orN (orS (g15 hl h)) rfl) rfl) rfl) rfl) rfl) rfl) rfl⟩ (stp (a := 16) ⟨rfl, orN (orN (orN (orN (orN (orN (orN (orN (orS (g16 hl h)) rfl) rfl) rfl) rfl) rfl) rfl) rfl) rfl⟩ (stp (a := 17) ⟨rfl, orN (orN (orN (orN (orN (orN (orN (orN (orN (g17 hl h) rfl) rfl) rfl) rfl) rfl) rfl) rfl) rfl) rfl⟩ (stp0 (b := 18)))))))))))
end
theorem first_ge {pts : Int} {T : List (Int × Int)} : ∀ w : Int, 8 ≤ w → w < 18 → m__law_first_eight w pts T = some () ∧ x__law_first_eight w pts T = none :=
  stp (a := 8) ⟨rfl, rfl⟩ (stp (a := 9) ⟨rfl, rfl⟩ (stp (a := 10) ⟨rfl, rfl⟩ (stp (a := 11) ⟨rfl, rfl⟩ (stp (a := 12) ⟨rfl, rfl⟩ (stp (a := 13) ⟨rfl, rfl⟩ (stp (a := 14) ⟨rfl, rfl⟩ (stp (a := 15) ⟨rfl, rfl⟩ (stp (a := 16) ⟨rfl, rfl⟩ (stp (a := 17) ⟨rfl, rfl⟩ (stp0 (b := 18)))))))))))
theorem headE {u : Option Int} {x : Int} {m : List Int} (hu : u = some x) (hm : m.length ≤ 63) : B2 catM (B2 (fun a l => some (a :: l)) (B2 (fun i j => some (i + j)) (some (2 : Int)) u) (some [])) (some m) = some ([2 + x] ++ m) := by
  rw [hu]; exact catM_of (Nat.le_trans (Nat.add_le_add_left hm 1) (by decide))
theorem ptsE {v : Option Int} {f y : Int} (hv : v = some y) (h0 : 0 ≤ f) (h1 : f < 93) (hy0 : 0 ≤ y) (hy4 : y < 4) :
    ∃ P, B2 atI (B2 (fun a l => some (a :: l)) (B1 (fun i => some (-i)) (some (1 : Int))) (B2 (fun a l => some (a :: l)) (some (8 : Int)) (B2 (fun a l => some (a :: l)) (B2 (fun i j => some (i - j)) (B1 (fun i => some (-i)) (some (1 : Int))) (some f)) (B2 (fun a l => some (a :: l)) (B2 (fun i j => some (i + j)) (some (8 : Int)) (some f)) (some []))))) v = some P ∧ (P < 0 ∨ 7 < P) ∧ -200 ≤ P ∧ P ≤ 200 := by
  subst hv
  show ∃ P, atI [(-1 : Int), 8, -1 - f, 8 + f] y = some P ∧ _
  exact stp (P := fun y => ∃ P, atI [(-1 : Int), 8, -1 - f, 8 + f] y = some P ∧ (P < 0 ∨ 7 < P) ∧ -200 ≤ P ∧ P ≤ 200) (a := 0) ⟨-1, atI_nat (j := 0) rfl, by decide⟩ (stp (a := 1) ⟨8, atI_nat (j := 1) rfl, by decide⟩
    (stp (a := 2) ⟨-1 - f, atI_nat (j := 2) rfl, by omega⟩ (stp (a := 3) ⟨8 + f, atI_nat (j := 3) rfl, by omega⟩ (stp0 (b := 4))))) y hy0 hy4
theorem law_end {M : List (Int × Int)} {m : Option (Fl Bool Unit)} {x : Option Str} {f : Unit → Option (Fl Bool Unit)} (hm : m = none) (hx : x = some "NoWeb") : fin (Fl.sq (tryM (["NoWeb"] : List Str) m x
    (fun (xn : Str) =>
      (Fl.sq ((Fl.nxs (BOr (some (decide (xn = "GoesRound"))) (BOr (some (decide (xn = "NoDyeing"))) (some (decide (xn = "NoNote")))))) : Option (Fl Bool Bool)) fun (v_other_19 : Bool) =>
      (Fl.sq ((Fl.nxs (BOr (some v_other_19) (BOr (some (decide (xn = "NoSetting"))) (some (decide (xn = "NoTie")))))) : Option (Fl Bool Bool)) fun (v_other_20 : Bool) =>
      ((Fl.rts (BAnd (some (decide (xn = "NoWeb"))) (BAnd (some true) (BAnd (BNot (some v_other_20)) (B2 eqM (some M) (some M)))))) : Option (Fl Bool Unit)))))) f) = some true := by
  subst hm hx
  simp [tryM, Fl.sq, Fl.nxs, Fl.rts, fin, chk_pos, BOr, BAnd, BNot, eqM]
theorem tieE (L : List (Int × Int)) : ∃ T : List (Int × Int), (BIf (some (decide ((L.length : Int) = 0))) (some (Fl.nx [((0 : Int), (1 : Int))])) (some (Fl.nx L)) : Option (Fl Bool (List (Int × Int)))) = some (.nx T) ∧ ((T = [(0, 1)] ∧ L = []) ∨ (T = L ∧ L ≠ [])) := by
  cases L with
  | nil => exact ⟨_, rfl, .inl ⟨rfl, rfl⟩⟩
  | cons a L => exact ⟨_, rfl, .inr ⟨rfl, by simp⟩⟩
theorem web01 {pts : Int} (h : 2 ≤ pts) : WebOk pts [(0, 1)] := ⟨List.pairwise_singleton _ _, fun p hp => by rw [List.mem_singleton.mp hp]; exact ⟨by decide, by decide, h⟩⟩
theorem law_pure (ns : List Int) (h63 : ns.length ≤ 63) : m_law ns = some true := by
  obtain ⟨pts, L, e1, ep, hp0, hp1, hw, hl⟩ := web_by_eq ([2 + cell ns 0 % 6] ++ cutA ns (some 1) none)
  have hp2 : 2 ≤ pts := by
    rw [ep]
    show 2 ≤ (2 + cell ns 0 % 6) % 8
    omega
  obtain ⟨T, hT, hTL⟩ := tieE L
  have hTw : WebOk pts T ∧ T ≠ [] ∧ T.length ≤ 50 := by
    rcases hTL with ⟨rfl, _⟩ | ⟨rfl, z⟩
    · exact ⟨web01 hp2, by simp, by decide⟩
    · exact ⟨hw, z, by omega⟩
  obtain ⟨P, M, hS, hML, hPd, hno⟩ : ∃ (P : Int) (M : List (Int × Int)), BIf (B2 (fun i j => some (decide (i < j))) (some (cell ns (3 : Int).toNat % 7)) (some (5 : Int)))
      (Fl.mp (fun (v_ties_6 : (List (Int × Int))) => ((pts, v_ties_6) : (Int × (List (Int × Int)))))
      ((Fl.nxs (B3 m__law_spoilt (some T) (some (cell ns (3 : Int).toNat % 7)) (B1 m__law_next (B2 m__law_cell_at (some ns) (some (4 : Int)))))) : Option (Fl Bool (List (Int × Int)))))
      (Fl.sq ((Fl.nxs (B2 modM (B2 m__law_cell_at (some ns) (some (4 : Int))) (some (93 : Int)))) : Option (Fl Bool Int)) fun (v_far_7 : Int) =>
      (Fl.sq ((BIf (B2 (fun i j => some (decide (i = j))) (B2 modM (B2 divM (B2 m__law_cell_at (some ns) (some (5 : Int))) (some (4 : Int))) (some (4 : Int))) (some (1 : Int)))
      (Fl.mp (fun (v_ties_9 : (List (Int × Int))) => (v_ties_9 : ((List (Int × Int)))))
      ((Fl.nxs (some ([] : List (Int × Int)))) : Option (Fl Bool (List (Int × Int)))))
      (some (Fl.nx T))) : Option (Fl Bool ((List (Int × Int))))) fun (s8 : ((List (Int × Int)))) =>
      (Fl.mp (fun (v_points_10 : Int) => ((v_points_10, s8) : (Int × (List (Int × Int)))))
      ((Fl.nxs (B2 atI (B2 (fun a l => some (a :: l)) (B1 (fun i => some (-i)) (some (1 : Int))) (B2 (fun a l => some (a :: l)) (some (8 : Int)) (B2 (fun a l => some (a :: l)) (B2 (fun i j => some (i - j)) (B1 (fun i => some (-i)) (some (1 : Int))) (some v_far_7)) (B2 (fun a l => some (a :: l)) (B2 (fun i j => some (i + j)) (some (8 : Int)) (some v_far_7)) (some []))))) (B2 modM (B2 m__law_cell_at (some ns) (some (5 : Int))) (some (4 : Int))))) : Option (Fl Bool Int))))) = some (.nx (P, M)) ∧ M.length ≤ 200 ∧ (-200 ≤ P ∧ P ≤ 200) ∧ isWebV P M = false := by
    have e4 : B2 m__law_cell_at (some ns) (some (4 : Int)) = some (cell ns 4) := cell_at_eq ns 4 (by decide)
    by_cases z : cell ns (3 : Int).toNat % 7 < 5
    · obtain ⟨M, q1, q2, q3⟩ := spoilt_eq (cell ns (3 : Int).toNat % 7) (nextV (cell ns 4)) hTw.1 hp1 hTw.2.1 hTw.2.2 (Int.emod_nonneg _ (by decide)) z
      refine ⟨pts, M, ?_, q2, by omega, no_web q3⟩
      rw [e4, show B2 (fun i j => some (decide (i < j))) (some (cell ns (3 : Int).toNat % 7)) (some (5 : Int)) = some true from congrArg some (decide_eq_true z), show B1 m__law_next (some (cell ns 4)) = some (nextV (cell ns 4)) from next_eq _, show B3 m__law_spoilt (some T) (some (cell ns (3 : Int).toNat % 7)) (some (nextV (cell ns 4))) = some M from q1]
      rfl
    · obtain ⟨P, hP, hPb, hPd⟩ := ptsE (modc ns (i := 5) (j := 4) (by decide) (by decide)) (Int.emod_nonneg (cell ns (4 : Int).toNat) (show (93 : Int) ≠ 0 by decide)) (Int.emod_lt_of_pos (cell ns (4 : Int).toNat) (show (0 : Int) < 93 by decide)) (Int.emod_nonneg _ (by decide)) (Int.emod_lt_of_pos _ (by decide))
      have e5 : B2 m__law_cell_at (some ns) (some (5 : Int)) = some (cell ns 5) := cell_at_eq ns 5 (by decide)
      obtain ⟨U, hU, hUl⟩ : ∃ U : List (Int × Int), (BIf (some (decide (cell ns 5 / 4 % 4 = 1))) (some (Fl.nx [])) (some (Fl.nx T)) : Option (Fl Bool (List (Int × Int)))) = some (.nx U) ∧ U.length ≤ 200 := by
        cases decide (cell ns 5 / 4 % 4 = 1) with
        | true => exact ⟨[], rfl, by decide⟩
        | false => exact ⟨T, rfl, Nat.le_trans hTw.2.2 (by decide)⟩
      refine ⟨P, U, ?_, hUl, hPd, no_web_pts hPb⟩
      rw [show B2 (fun i j => some (decide (i < j))) (some (cell ns (3 : Int).toNat % 7)) (some (5 : Int)) = some false from congrArg some (decide_eq_false z)]
      show Fl.sq (Fl.nxs (B2 modM (B2 m__law_cell_at (some ns) (some (4 : Int))) (some (93 : Int)))) _ = _
      rw [modc ns (by decide) (by decide), nxs_some, sq_nx, e5, dm (by decide) (by decide) (by decide)]
      show Fl.sq (BIf (some (decide (cell ns 5 / 4 % 4 = 1))) (some (Fl.nx [])) (some (Fl.nx T))) _ = _
      rw [hU, sq_nx, ← e5, hP]; rfl
  refine go (show B4 m__law_web_by _ _ _ _ = some (pts, L) from ?_) (goB (a := T) hT (go (modc ns (by decide) (by decide)) (goB hS (go (modc ns (by decide) (by decide)) (go (a := (rangeI 0 (if P > 0 then P else 0).toNat).map fun _ => (0 : Int)) ?_ (go rfl ?_))))))
  · exact (congrArg (fun o => B4 m__law_web_by o (some 0) (some 7) (some 12)) (headE (m := cutA ns (some 1) none) (modc ns (i := 0) (j := 6) (by decide) (by decide)) (Nat.le_trans cutA_len h63))).trans e1
  · show (range1 (if P > 0 then P else 0)).bind _ = _
    rw [range1_of (by split <;> omega) (by split <;> omega)]
    exact compL_map (fun _ => (0 : Int)) _ (by rw [rangeI_len]; split <;> omega) fun _ _ => rfl
  · have w0 := Int.emod_nonneg (cell ns (6 : Int).toNat) (show (18 : Int) ≠ 0 by decide)
    have w1 := Int.emod_lt_of_pos (cell ns (6 : Int).toNat) (show (0 : Int) < 18 by decide)
    have hM : M.length ≤ 1000 := Nat.le_trans hML (by decide)
    by_cases w8 : cell ns (6 : Int).toNat % 18 < 8
    · obtain ⟨a, b⟩ := first_lt hM hno _ w0 w8
      exact law_end (by rw [show B3 m__law_first_eight (some _) (some P) (some M) = none from a]; rfl) (orS b)
    · obtain ⟨a, b⟩ := first_ge (pts := P) (T := M) _ (Int.not_lt.mp w8) w1
      obtain ⟨_, d⟩ := others_eq (D := (rangeI 0 (if P > 0 then P else 0).toNat).map fun _ => (0 : Int)) hM hno _ (Int.not_lt.mp w8) w1
      have a' : B3 m__law_first_eight (some (cell ns (6 : Int).toNat % 18)) (some P) (some M) = some () := a
      exact law_end (by rw [a']; rfl) (orN (by rw [a']; exact d) b)
end Toy


set_option maxHeartbeats 4000000
namespace Toy
open PySem L2
noncomputable def top (i : Nat) : Stmt := PySem.Challenge.pw_dyeweb_k18_no_web.main.body.getD i (.Pass ⟨0, 0, 0, 0⟩)
noncomputable abbrev s_is_web : Stmt := top 11
theorem sc_is_web : FnScope ["points", "ties"] ["points", "ties"] (defScope s_is_web) := ⟨rfl, rfl, rfl, by decide +kernel, rfl, by decide +kernel, by decide +kernel⟩
noncomputable abbrev s_ties_join_points : Stmt := top 12
theorem sc_ties_join_points : FnScope ["points", "ties"] ["points", "ties"] (defScope s_ties_join_points) := ⟨rfl, rfl, rfl, by decide +kernel, rfl, by decide +kernel, by decide +kernel⟩
noncomputable abbrev s_ties_rise : Stmt := top 13
theorem sc_ties_rise : FnScope ["ties"] ["ties"] (defScope s_ties_rise) := ⟨rfl, rfl, rfl, by decide +kernel, rfl, by decide +kernel, by decide +kernel⟩
noncomputable abbrev s_refuse_no_web : Stmt := top 14
theorem sc_refuse_no_web : FnScope ["points", "ties"] ["points", "ties"] (defScope s_refuse_no_web) := ⟨rfl, rfl, rfl, by decide +kernel, rfl, by decide +kernel, by decide +kernel⟩
noncomputable abbrev s_cut : Stmt := top 16
theorem sc_cut : FnScope ["points", "ties", "tie"] ["points", "ties", "tie"] (defScope s_cut) := ⟨rfl, rfl, rfl, by decide +kernel, rfl, by decide +kernel, by decide +kernel⟩
noncomputable abbrev s_merged : Stmt := top 17
theorem sc_merged : FnScope ["points", "ties", "tie"] ["points", "ties", "tie"] (defScope s_merged) := ⟨rfl, rfl, rfl, by decide +kernel, rfl, by decide +kernel, by decide +kernel⟩
noncomputable abbrev s_pieces : Stmt := top 22
theorem sc_pieces : FnScope ["points", "ties", "heads", "a", "b"] ["points", "ties"] (defScope s_pieces) := ⟨rfl, rfl, rfl, by decide +kernel, rfl, by decide +kernel, by decide +kernel⟩
noncomputable abbrev s_beside : Stmt := top 25
theorem sc_beside : FnScope ["points", "ties", "more", "others"] ["points", "ties", "more", "others"] (defScope s_beside) := ⟨rfl, rfl, rfl, by decide +kernel, rfl, by decide +kernel, by decide +kernel⟩
noncomputable abbrev s_is_dyeing : Stmt := top 27
theorem sc_is_dyeing : FnScope ["points", "ties", "dyes", "many"] ["points", "ties", "dyes", "many"] (defScope s_is_dyeing) := ⟨rfl, rfl, rfl, by decide +kernel, rfl, by decide +kernel, by decide +kernel⟩
noncomputable abbrev s_fewest : Stmt := top 30
theorem sc_fewest : FnScope ["points", "ties", "many"] ["points", "ties"] (defScope s_fewest) := ⟨rfl, rfl, rfl, by decide +kernel, rfl, by decide +kernel, by decide +kernel⟩
noncomputable abbrev s_least : Stmt := top 31
theorem sc_least : FnScope ["points", "ties", "many"] ["points", "ties", "many"] (defScope s_least) := ⟨rfl, rfl, rfl, by decide +kernel, rfl, by decide +kernel, by decide +kernel⟩
noncomputable abbrev s_goes_round : Stmt := top 35
theorem sc_goes_round : FnScope ["points", "ties", "arrows"] ["points", "ties", "arrows"] (defScope s_goes_round) := ⟨rfl, rfl, rfl, by decide +kernel, rfl, by decide +kernel, by decide +kernel⟩
noncomputable abbrev s_ranks : Stmt := top 36
theorem sc_ranks : FnScope ["points", "ties", "arrows", "lengths"] ["points", "ties", "arrows"] (defScope s_ranks) := ⟨rfl, rfl, rfl, by decide +kernel, rfl, by decide +kernel, by decide +kernel⟩
noncomputable abbrev s_refuse_no_setting : Stmt := top 37
theorem sc_refuse_no_setting : FnScope ["points", "ties", "arrows"] ["points", "ties", "arrows"] (defScope s_refuse_no_setting) := ⟨rfl, rfl, rfl, by decide +kernel, rfl, by decide +kernel, by decide +kernel⟩
noncomputable abbrev s_setting_of : Stmt := top 42
theorem sc_setting_of : FnScope ["points", "ties", "dyes"] ["points", "ties", "dyes"] (defScope s_setting_of) := ⟨rfl, rfl, rfl, by decide +kernel, rfl, by decide +kernel, by decide +kernel⟩
noncomputable abbrev s_flattest : Stmt := top 43
theorem sc_flattest : FnScope ["points", "ties"] ["points", "ties"] (defScope s_flattest) := ⟨rfl, rfl, rfl, by decide +kernel, rfl, by decide +kernel, by decide +kernel⟩
noncomputable abbrev s_row : Stmt := top 45
theorem sc_row : FnScope ["points", "ties"] ["points", "ties"] (defScope s_row) := ⟨rfl, rfl, rfl, by decide +kernel, rfl, by decide +kernel, by decide +kernel⟩
noncomputable abbrev s_worth : Stmt := top 47
theorem sc_worth : FnScope ["numbers", "q", "total", "number"] ["numbers", "q"] (defScope s_worth) := ⟨rfl, rfl, rfl, by decide +kernel, rfl, by decide +kernel, by decide +kernel⟩
noncomputable abbrev s_settings : Stmt := top 49
theorem sc_settings : FnScope ["points", "ties"] ["points", "ties"] (defScope s_settings) := ⟨rfl, rfl, rfl, by decide +kernel, rfl, by decide +kernel, by decide +kernel⟩
noncomputable abbrev s_from_spring : Stmt := top 50
theorem sc_from_spring : FnScope ["points", "ties", "point", "numbers"] ["points", "ties", "point"] (defScope s_from_spring) := ⟨rfl, rfl, rfl, by decide +kernel, rfl, by decide +kernel, by decide +kernel⟩
noncomputable abbrev s_pairs : Stmt := top 51
theorem sc_pairs : FnScope ["points", "ties", "q"] ["points", "ties", "q"] (defScope s_pairs) := ⟨rfl, rfl, rfl, by decide +kernel, rfl, by decide +kernel, by decide +kernel⟩
noncomputable abbrev s_unbroken : Stmt := top 52
theorem sc_unbroken : FnScope ["points", "ties", "many", "numbers"] ["points", "ties", "many"] (defScope s_unbroken) := ⟨rfl, rfl, rfl, by decide +kernel, rfl, by decide +kernel, by decide +kernel⟩
noncomputable abbrev s_shown : Stmt := top 54
theorem sc_shown : FnScope ["points", "ties"] ["points", "ties"] (defScope s_shown) := ⟨rfl, rfl, rfl, by decide +kernel, rfl, by decide +kernel, by decide +kernel⟩
noncomputable abbrev s__law_cell_at : Stmt := top 57
theorem sc__law_cell_at : FnScope ["script", "k"] ["script", "k"] (defScope s__law_cell_at) := ⟨rfl, rfl, rfl, by decide +kernel, rfl, by decide +kernel, by decide +kernel⟩
noncomputable abbrev s__law_next : Stmt := top 58
theorem sc__law_next : FnScope ["seed"] ["seed"] (defScope s__law_next) := ⟨rfl, rfl, rfl, by decide +kernel, rfl, by decide +kernel, by decide +kernel⟩
noncomputable abbrev s__law_web_by : Stmt := top 59
theorem sc__law_web_by : FnScope ["script", "k", "most", "cap", "points", "seed", "thick", "ties", "low", "high"] ["script", "k", "most", "cap"] (defScope s__law_web_by) := ⟨rfl, rfl, rfl, by decide +kernel, rfl, by decide +kernel, by decide +kernel⟩
noncomputable abbrev s__law_spoilt : Stmt := top 61
theorem sc__law_spoilt : FnScope ["ties", "way", "cell", "at", "bad"] ["ties", "way", "cell"] (defScope s__law_spoilt) := ⟨rfl, rfl, rfl, by decide +kernel, rfl, by decide +kernel, by decide +kernel⟩
noncomputable abbrev s__law_first_eight : Stmt := top 62
theorem sc__law_first_eight : FnScope ["which", "points", "ties"] ["which", "points", "ties"] (defScope s__law_first_eight) := ⟨rfl, rfl, rfl, by decide +kernel, rfl, by decide +kernel, by decide +kernel⟩
noncomputable abbrev s__law_others : Stmt := top 63
theorem sc__law_others : FnScope ["which", "points", "ties", "tints"] ["which", "points", "ties", "tints"] (defScope s__law_others) := ⟨rfl, rfl, rfl, by decide +kernel, rfl, by decide +kernel, by decide +kernel⟩
noncomputable abbrev s_law : Stmt := top 64
theorem sc_law : FnScope ["script", "points", "ties", "way", "far", "which", "tints", "handed", "e", "other"] ["script"] (defScope s_law) := ⟨rfl, rfl, rfl, by decide +kernel, rfl, by decide +kernel, by decide +kernel⟩
structure Blt (K : PySem.W.Frag) (mg : Str → Option Value) : Prop where
  b_ValueError : mg "ValueError" = none
  b_abs : mg "abs" = none
  b_all : mg "all" = none
  b_isinstance : mg "isinstance" = none
  b_len : mg "len" = none
  b_list : mg "list" = none
  b_max : mg "max" = none
  b_range : mg "range" = none
  b_reversed : mg "reversed" = none
  c_MOST_POINTS : ∃ t, mg "MOST_POINTS" = some (Value.int 7 t)
  c_MOST_TIES : ∃ t, mg "MOST_TIES" = some (Value.int 12 t)
  k_NoWeb : ∃ C, mg "NoWeb" = some (.ref C) ∧ ExcK K C
  x_all : ∃ W, mg "WebError" = some (.ref W) ∧ ExcK K W ∧ ∀ n ∈ (["NoWeb"] : List Str), ∃ C, XPn K mg W (["GoesRound", "NoDyeing", "NoNote", "NoSetting", "NoTie", "NoWeb"] : List Str) n C
section
variable {P : Program} {w : World} {K : PySem.W.Frag} {mg : Str → Option Value} {base : Heap}
noncomputable abbrev sp_ties_join_points (K : PySem.W.Frag) : Sp := sp2 rInt (rL rII) (rtV rBool) m_ties_join_points K
theorem fn_ties_join_points (B : Blt K mg) (At_ties_join_points : At K mg "ties_join_points" s_ties_join_points ["points", "ties"]) : Fn P w K mg base CX0 1 "ties_join_points" ["points", "ties"] (sp_ties_join_points K) := by
  refine Fn.of At_ties_join_points fun {f fd} F => F.ok sc_ties_join_points (fun vs H Q E h => len2 h) (fun cdv A outer s H vs Q E hr h => ?_)
  exact ⟨_, (pss_one (ps_ret (pe_callB (call_allB rfl) rfl B.b_all PyProof.Rows.boot_all (pa_cons (pe_comp (own := ["a", "b"]) (fr := [("points", 0)]) rfl (pi_list (pv 1)) (fun s3 H3 fp => (pg_tupK (K := K) (n := 2) rfl rfl (pgs_cons (pg_name (i := 0) (show List.Nodup (["a", "b", "points"] : List Str) by decide +kernel) rfl (Or.inl rfl) (Or.inr rfl)) (pgs_cons (pg_name (i := 1) (show List.Nodup (["a", "b", "points"] : List Str) by decide +kernel) rfl (Or.inl rfl) (Or.inr rfl)) pgs_nil)))) (fun s3 H3 fp => pif_nil) (fun s3 H3 fp => (pe_and (pe_cmpR op_le pe_int (pv 0) (nomark _)) (pe_and (pe_cmpR op_lt (pv 0) (pv 1) (nomark _)) (pe_one (pe_cmpR op_lt (pv 1) (pv 2) (nomark _))))))) pa_nil)))), run2 (N := ["points", "ties"]) (m := b_ties_join_points) (ks' := fun _ _ _ => [Kd.any, Kd.any]) h (fun _ _ => rfl) (fun v_points v_ties =>
(sj_ret (ev_cb1 o_all (en_compL (ev_var (i := 1)).lo gj_pair (fun x1 => et_noIf) (fun x1 => (ev_and (ev_op (o_cmp0 (g := fun i j => decide (i ≤ j))) ev_int (ev_var (i := 0))) (ev_and (ev_op (o_cmp0 (g := fun i j => decide (i < j))) (ev_var (i := 0)) (ev_var (i := 1))) (ev_op (o_cmp0 (g := fun i j => decide (i < j))) (ev_var (i := 1)) (ev_var (i := 2))))))).ev.lo)))⟩
noncomputable abbrev sp_ties_rise (K : PySem.W.Frag) : Sp := sp1 (rL rII) (rtV rBool) m_ties_rise K
theorem fn_ties_rise (B : Blt K mg) (At_ties_rise : At K mg "ties_rise" s_ties_rise ["ties"]) : Fn P w K mg base CX0 1 "ties_rise" ["ties"] (sp_ties_rise K) := by
  refine Fn.of At_ties_rise fun {f fd} F => F.ok sc_ties_rise (fun vs H Q E h => len1 h) (fun cdv A outer s H vs Q E hr h => ?_)
  exact ⟨_, (pss_one (ps_ret (pe_callB (call_allB rfl) rfl B.b_all PyProof.Rows.boot_all (pa_cons (pe_comp (own := ["k"]) (fr := [("ties", 0)]) rfl (pi_range2 rfl B.b_range (pa_cons pe_int (pa_cons (pe_callB call_len_seq rfl B.b_len PySem.boot_len (pa_cons (pv 0) pa_nil)) pa_nil))) (fun s3 H3 fp => (pg_name (i := 0) (show List.Nodup (["k", "ties"] : List Str) by decide +kernel) rfl (Or.inl rfl) (Or.inr rfl))) (fun s3 H3 fp => pif_nil) (fun s3 H3 fp => (pe_cmpR (op_ltTK (K := K) rfl hr.units0) (pe_ix (ix_listK (K := K) rfl) (pv 1) (pe_op op_sub (pv 0) pe_int) (fun _ _ => rfl)) (pe_ix (ix_listK (K := K) rfl) (pv 1) (pv 0) (fun _ _ => rfl)) (nomark _)))) pa_nil)))), run1 (N := ["ties"]) (m := b_ties_rise) (ks' := fun _ _ => [Kd.any]) h (fun _ => rfl) (fun v_ties =>
(sj_ret (ev_cb1 o_all (en_compR2 ev_int (ev_cb1 o_len (ev_var (i := 0)).lo) gj_name (fun x1 => et_noIf) (fun x1 => (ev_op o_ltP (ev_op o_ix (ev_var (i := 1)).lo (ev_op o_int0 (ev_var (i := 0)) ev_int)) (ev_op o_ix (ev_var (i := 1)).lo (ev_var (i := 0)))))).ev.lo)))⟩
noncomputable abbrev sp_is_web (K : PySem.W.Frag) : Sp := sp2 rInt (rL rII) (rtV rBool) m_is_web K
theorem fn_is_web (B : Blt K mg) (G_ties_join_points : Fn P w K mg base CX0 1 "ties_join_points" ["points", "ties"] (sp_ties_join_points K)) (G_ties_rise : Fn P w K mg base CX0 1 "ties_rise" ["ties"] (sp_ties_rise K)) (At_is_web : At K mg "is_web" s_is_web ["points", "ties"]) : Fn P w K mg base CX0 2 "is_web" ["points", "ties"] (sp_is_web K) := by
  refine Fn.of At_is_web fun {f fd} F => F.ok sc_is_web (fun vs H Q E h => len2 h) (fun cdv A outer s H vs Q E hr h => ?_)
  exact ⟨_, (pss_cons (ps_if (PW.pt (pw_or (pt_cmpR op_lt (pv 0) pe_int (nomark _)) (pw_or (pt_cmpR op_gt (pv 0) (pe_cst rfl B.c_MOST_POINTS) (nomark _)) (pw_or1 (pt_cmpR op_gt (pe_callB call_len_seq rfl B.b_len PySem.boot_len (pa_cons (pv 1) pa_nil)) (pe_cst rfl B.c_MOST_TIES) (nomark _))))))
(pss_one (ps_ret pe_bl))
pss_nil)
(pss_one (ps_ret (pe_and (pe_callF G_ties_join_points hr rfl pass0 (pa_cons (pv 0) (pa_cons (pv 1) pa_nil))) (pe_one (pe_callF G_ties_rise hr rfl pass0 (pa_cons (pv 1) pa_nil))))))), run2 (N := ["points", "ties"]) (m := b_is_web) (ks' := fun _ _ _ => [Kd.any, Kd.any]) h (fun _ _ => rfl) (fun v_points v_ties =>
(sj_seq (ks1 := fun (s1 : Unit) => [Kd.vis rInt v_points, Kd.vis (rL rII) v_ties])
(sj_if (ks' := fun (s1 : Unit) => [Kd.vis rInt v_points, Kd.vis (rL rII) v_ties]) (et_or (et_cmp (ev_op (o_cmp0 (g := fun i j => decide (i < j))) (ev_var (i := 0)) ev_int)) (et_or (et_cmp (ev_op (o_cmp0 (g := fun i j => decide (j < i))) (ev_var (i := 0)) ev_int)) (et_cmp (ev_op (o_cmp0 (g := fun i j => decide (j < i))) (ev_cb1 o_len (ev_var (i := 1)).lo) ev_int))))
(sj_ret ev_bl)
(sj_next (KWk.same (KWk.same KWk.nil)))) (fun s1 =>
(sj_ret (ev_and (EvR.ev (er_2 (ev_var (i := 0)) (ev_var (i := 1)))) (EvR.ev (er_1 (ev_var (i := 1)))))))))⟩
noncomputable abbrev sp_refuse_no_web (K : PySem.W.Frag) : Sp := sp2 rInt (rL rII) (rtV rUnit) m_refuse_no_web K
theorem fn_refuse_no_web (B : Blt K mg) (G_is_web : Fn P w K mg base CX0 2 "is_web" ["points", "ties"] (sp_is_web K)) (At_refuse_no_web : At K mg "refuse_no_web" s_refuse_no_web ["points", "ties"]) : Fn P w K mg base CX0 3 "refuse_no_web" ["points", "ties"] (sp_refuse_no_web K) := by
  refine Fn.of At_refuse_no_web fun {f fd} F => F.ok sc_refuse_no_web (fun vs H Q E h => len2 h) (fun cdv A outer s H vs Q E hr h => ?_)
  exact ⟨_, (pss_one (ps_if (pt_not (pt_val (pe_callF G_is_web hr rfl pass0 (pa_cons (pv 0) (pa_cons (pv 1) pa_nil)))))
(pss_one ps_never)
pss_nil)), runU2 (N := ["points", "ties"]) (m := b_refuse_no_web) (ks' := fun _ _ _ => [Kd.any, Kd.any]) h (fun _ _ => rfl) (fun v_points v_ties =>
(sj_post (g := (fun (s1 : Unit) => (() : Unit)))
(sj_if (ks' := fun (s1 : Unit) => [Kd.vis rInt v_points, Kd.vis (rL rII) v_ties]) (et_not (et_val (EvR.ev (er_2 (ev_var (i := 0)) (ev_var (i := 1))))))
sj_never
(sj_next (KWk.same (KWk.same KWk.nil)))) (fun s1 => (KWk.any (KWk.any KWk.nil)))))⟩
noncomputable abbrev spx_refuse_no_web (K : PySem.W.Frag) (mg : Str → Option Value) : Sp := spx2 rInt (rL rII) x_refuse_no_web K mg
theorem fx_refuse_no_web (B : Blt K mg) (G_is_web : Fn P w K mg base CX0 2 "is_web" ["points", "ties"] (sp_is_web K)) (At_refuse_no_web : At K mg "refuse_no_web" s_refuse_no_web ["points", "ties"]) : Fn P w K mg base (CX1 P w) 3 "refuse_no_web" ["points", "ties"] (spx_refuse_no_web K mg) := by
  obtain ⟨C_NoWeb, mg_NoWeb, ex_NoWeb⟩ := B.k_NoWeb
  refine Fn.of At_refuse_no_web fun {f fd} F => F.ok1 sc_refuse_no_web (fun vs H Q E h => lenx2 h) (fun cdv A outer s H vs Q E hr h => ?_)
  exact ⟨_, (pss_cons (ps_if (PT.nox (pt_not (pt_val (pe_callF G_is_web hr rfl pass0 (pa_cons (pv 0) (pa_cons (pv 1) pa_nil))))))
(pss_cons (ps_raise mg_NoWeb ex_NoWeb rfl) pss_never)
pss_never) pss_never), runx2 (N := ["points", "ties"]) h (fun v_points v_ties =>
(sjx_first (sjx_if (et_not (et_val (EvR.ev (er_2 (ev_var (i := 0)) (ev_var (i := 1))))))
(sjx_first (sjx_raise mg_NoWeb)) sjx_no)))⟩

noncomputable abbrev sp_cut (K : PySem.W.Frag) : Sp := sp3 rInt (rL rII) rII (rtN rII) m_cut K
theorem fn_cut (B : Blt K mg) (G_refuse_no_web : Fn P w K mg base CX0 3 "refuse_no_web" ["points", "ties"] (sp_refuse_no_web K)) (At_cut : At K mg "cut" s_cut ["points", "ties", "tie"]) : Fn P w K mg base CX0 4 "cut" ["points", "ties", "tie"] (sp_cut K) := Fn.of At_cut fun {f fd} F => F.ok sc_cut (fun vs H Q E h => len3 h) (fun cdv A outer s H vs Q E hr h => absurd h (no_3 fun _ _ _ => rfl))
noncomputable abbrev spx_cut (K : PySem.W.Frag) (mg : Str → Option Value) : Sp := spx3 rInt (rL rII) rII x_cut K mg
theorem fx_cut (B : Blt K mg) (G_refuse_no_web : Fn P w K mg base CX0 3 "refuse_no_web" ["points", "ties"] (sp_refuse_no_web K)) (GB_refuse_no_web : Fc P w K mg base (CX1 P w) 3 "refuse_no_web" (spB (sp_refuse_no_web K) (spx_refuse_no_web K mg))) (At_cut : At K mg "cut" s_cut ["points", "ties", "tie"]) : Fn P w K mg base (CX1 P w) 4 "cut" ["points", "ties", "tie"] (spx_cut K mg) := by
  refine Fn.of At_cut fun {f fd} F => F.ok1 sc_cut (fun vs H Q E h => lenx3 h) (fun cdv A outer s H vs Q E hr h => ?_)
  exact ⟨_, (pss_cons (ps_expr (pe_callC GB_refuse_no_web hr rfl pass1S (pa_cons (pv 0) (pa_cons (pv 1) pa_nil)))) pss_never), runx3 (N := ["points", "ties", "tie"]) h (fun v_points v_ties v_tie =>
(sjx_first (sjx_expr (evx_2 (ev_var (i := 0)) (ev_var (i := 1))) kx_none)))⟩

noncomputable abbrev sp_merged (K : PySem.W.Frag) : Sp := sp3 rInt (rL rII) rII (rtV (rL rII)) m_merged K
theorem fn_merged (B : Blt K mg) (G_refuse_no_web : Fn P w K mg base CX0 3 "refuse_no_web" ["points", "ties"] (sp_refuse_no_web K)) (At_merged : At K mg "merged" s_merged ["points", "ties", "tie"]) : Fn P w K mg base CX0 4 "merged" ["points", "ties", "tie"] (sp_merged K) := Fn.of At_merged fun {f fd} F => F.ok sc_merged (fun vs H Q E h => len3 h) (fun cdv A outer s H vs Q E hr h => absurd h (no_3 fun _ _ _ => rfl))
noncomputable abbrev spx_merged (K : PySem.W.Frag) (mg : Str → Option Value) : Sp := spx3 rInt (rL rII) rII x_merged K mg
theorem fx_merged (B : Blt K mg) (G_refuse_no_web : Fn P w K mg base CX0 3 "refuse_no_web" ["points", "ties"] (sp_refuse_no_web K)) (GB_refuse_no_web : Fc P w K mg base (CX1 P w) 3 "refuse_no_web" (spB (sp_refuse_no_web K) (spx_refuse_no_web K mg))) (At_merged : At K mg "merged" s_merged ["points", "ties", "tie"]) : Fn P w K mg base (CX1 P w) 4 "merged" ["points", "ties", "tie"] (spx_merged K mg) := by
  refine Fn.of At_merged fun {f fd} F => F.ok1 sc_merged (fun vs H Q E h => lenx3 h) (fun cdv A outer s H vs Q E hr h => ?_)
  exact ⟨_, (pss_cons (ps_expr (pe_callC GB_refuse_no_web hr rfl pass1S (pa_cons (pv 0) (pa_cons (pv 1) pa_nil)))) pss_never), runx3 (N := ["points", "ties", "tie"]) h (fun v_points v_ties v_tie =>
(sjx_first (sjx_expr (evx_2 (ev_var (i := 0)) (ev_var (i := 1))) kx_none)))⟩

noncomputable abbrev sp_pieces (K : PySem.W.Frag) : Sp := sp2 rInt (rL rII) (rtN (rL rInt)) m_pieces K
theorem fn_pieces (B : Blt K mg) (G_refuse_no_web : Fn P w K mg base CX0 3 "refuse_no_web" ["points", "ties"] (sp_refuse_no_web K)) (At_pieces : At K mg "pieces" s_pieces ["points", "ties"]) : Fn P w K mg base CX0 4 "pieces" ["points", "ties"] (sp_pieces K) := Fn.of At_pieces fun {f fd} F => F.ok sc_pieces (fun vs H Q E h => len2 h) (fun cdv A outer s H vs Q E hr h => absurd h (no_2 fun _ _ => rfl))
noncomputable abbrev spx_pieces (K : PySem.W.Frag) (mg : Str → Option Value) : Sp := spx2 rInt (rL rII) x_pieces K mg
theorem fx_pieces (B : Blt K mg) (G_refuse_no_web : Fn P w K mg base CX0 3 "refuse_no_web" ["points", "ties"] (sp_refuse_no_web K)) (GB_refuse_no_web : Fc P w K mg base (CX1 P w) 3 "refuse_no_web" (spB (sp_refuse_no_web K) (spx_refuse_no_web K mg))) (At_pieces : At K mg "pieces" s_pieces ["points", "ties"]) : Fn P w K mg base (CX1 P w) 4 "pieces" ["points", "ties"] (spx_pieces K mg) := by
  refine Fn.of At_pieces fun {f fd} F => F.ok1 sc_pieces (fun vs H Q E h => lenx2 h) (fun cdv A outer s H vs Q E hr h => ?_)
  exact ⟨_, (pss_cons (ps_expr (pe_callC GB_refuse_no_web hr rfl pass1S (pa_cons (pv 0) (pa_cons (pv 1) pa_nil)))) pss_never), runx2 (N := ["points", "ties", "heads", "a", "b"]) h (fun v_points v_ties =>
(sjx_first (sjx_expr (evx_2 (ev_var (i := 0)) (ev_var (i := 1))) kx_none)))⟩

noncomputable abbrev sp_beside (K : PySem.W.Frag) : Sp := sp4 rInt (rL rII) rInt (rL rII) (rtN rII) m_beside K
theorem fn_beside (B : Blt K mg) (G_refuse_no_web : Fn P w K mg base CX0 3 "refuse_no_web" ["points", "ties"] (sp_refuse_no_web K)) (At_beside : At K mg "beside" s_beside ["points", "ties", "more", "others"]) : Fn P w K mg base CX0 4 "beside" ["points", "ties", "more", "others"] (sp_beside K) := Fn.of At_beside fun {f fd} F => F.ok sc_beside (fun vs H Q E h => len4 h) (fun cdv A outer s H vs Q E hr h => absurd h (no_4 fun _ _ _ _ => rfl))
noncomputable abbrev spx_beside (K : PySem.W.Frag) (mg : Str → Option Value) : Sp := spx4 rInt (rL rII) rInt (rL rII) x_beside K mg
theorem fx_beside (B : Blt K mg) (G_refuse_no_web : Fn P w K mg base CX0 3 "refuse_no_web" ["points", "ties"] (sp_refuse_no_web K)) (GB_refuse_no_web : Fc P w K mg base (CX1 P w) 3 "refuse_no_web" (spB (sp_refuse_no_web K) (spx_refuse_no_web K mg))) (At_beside : At K mg "beside" s_beside ["points", "ties", "more", "others"]) : Fn P w K mg base (CX1 P w) 4 "beside" ["points", "ties", "more", "others"] (spx_beside K mg) := by
  refine Fn.of At_beside fun {f fd} F => F.ok1 sc_beside (fun vs H Q E h => lenx4 h) (fun cdv A outer s H vs Q E hr h => ?_)
  rcases spx4_or (f := x_beside_0) h with h | h
  · exact ⟨_, (pss_cons (ps_expr (pe_callC GB_refuse_no_web hr rfl pass1S (pa_cons (pv 0) (pa_cons (pv 1) pa_nil)))) pss_never), runx4 (N := ["points", "ties", "more", "others"]) h (fun v_points v_ties v_more v_others =>
(sjx_first (sjx_expr (evx_2 (ev_var (i := 0)) (ev_var (i := 1))) kx_none)))⟩
  exact ⟨_, (pss_cons (PS.nox (ps_expr (pe_callF G_refuse_no_web hr rfl pass0 (pa_cons (pv 0) (pa_cons (pv 1) pa_nil)))))
(pss_cons (ps_expr (pe_callC GB_refuse_no_web hr rfl pass1S (pa_cons (pv 2) (pa_cons (pv 3) pa_nil)))) pss_never)), runx4 (N := ["points", "ties", "more", "others"]) h (fun v_points v_ties v_more v_others =>
(sjx_seq (rr := (rtN rII)) (ks1 := fun (u2 : Unit) => [Kd.vis rInt v_points, Kd.vis (rL rII) v_ties, Kd.vis rInt v_more, Kd.vis (rL rII) v_others])
(sj_expr (EvR.ev (er_2 (ev_var (i := 0)) (ev_var (i := 1))))) (fun u2 =>
(sjx_first (sjx_expr (evx_2 (ev_var (i := 2)) (ev_var (i := 3))) kx_none)))))⟩

noncomputable abbrev sp_is_dyeing (K : PySem.W.Frag) : Sp := sp4 rInt (rL rII) (rL rInt) rInt (rtV rBool) m_is_dyeing K
theorem fn_is_dyeing (B : Blt K mg) (G_refuse_no_web : Fn P w K mg base CX0 3 "refuse_no_web" ["points", "ties"] (sp_refuse_no_web K)) (At_is_dyeing : At K mg "is_dyeing" s_is_dyeing ["points", "ties", "dyes", "many"]) : Fn P w K mg base CX0 4 "is_dyeing" ["points", "ties", "dyes", "many"] (sp_is_dyeing K) := Fn.of At_is_dyeing fun {f fd} F => F.ok sc_is_dyeing (fun vs H Q E h => len4 h) (fun cdv A outer s H vs Q E hr h => absurd h (no_4 fun _ _ _ _ => rfl))
noncomputable abbrev spx_is_dyeing (K : PySem.W.Frag) (mg : Str → Option Value) : Sp := spx4 rInt (rL rII) (rL rInt) rInt x_is_dyeing K mg
theorem fx_is_dyeing (B : Blt K mg) (G_refuse_no_web : Fn P w K mg base CX0 3 "refuse_no_web" ["points", "ties"] (sp_refuse_no_web K)) (GB_refuse_no_web : Fc P w K mg base (CX1 P w) 3 "refuse_no_web" (spB (sp_refuse_no_web K) (spx_refuse_no_web K mg))) (At_is_dyeing : At K mg "is_dyeing" s_is_dyeing ["points", "ties", "dyes", "many"]) : Fn P w K mg base (CX1 P w) 4 "is_dyeing" ["points", "ties", "dyes", "many"] (spx_is_dyeing K mg) := by
  refine Fn.of At_is_dyeing fun {f fd} F => F.ok1 sc_is_dyeing (fun vs H Q E h => lenx4 h) (fun cdv A outer s H vs Q E hr h => ?_)
  exact ⟨_, (pss_cons (ps_expr (pe_callC GB_refuse_no_web hr rfl pass1S (pa_cons (pv 0) (pa_cons (pv 1) pa_nil)))) pss_never), runx4 (N := ["points", "ties", "dyes", "many"]) h (fun v_points v_ties v_dyes v_many =>
(sjx_first (sjx_expr (evx_2 (ev_var (i := 0)) (ev_var (i := 1))) kx_none)))⟩

noncomputable abbrev sp_least (K : PySem.W.Frag) : Sp := sp3 rInt (rL rII) rInt (rtV (rOpt (rL rInt))) m_least K
theorem fn_least (B : Blt K mg) (G_refuse_no_web : Fn P w K mg base CX0 3 "refuse_no_web" ["points", "ties"] (sp_refuse_no_web K)) (At_least : At K mg "least" s_least ["points", "ties", "many"]) : Fn P w K mg base CX0 4 "least" ["points", "ties", "many"] (sp_least K) := Fn.of At_least fun {f fd} F => F.ok sc_least (fun vs H Q E h => len3 h) (fun cdv A outer s H vs Q E hr h => absurd h (no_3 fun _ _ _ => rfl))
noncomputable abbrev spx_least (K : PySem.W.Frag) (mg : Str → Option Value) : Sp := spx3 rInt (rL rII) rInt x_least K mg
theorem fx_least (B : Blt K mg) (G_refuse_no_web : Fn P w K mg base CX0 3 "refuse_no_web" ["points", "ties"] (sp_refuse_no_web K)) (GB_refuse_no_web : Fc P w K mg base (CX1 P w) 3 "refuse_no_web" (spB (sp_refuse_no_web K) (spx_refuse_no_web K mg))) (At_least : At K mg "least" s_least ["points", "ties", "many"]) : Fn P w K mg base (CX1 P w) 4 "least" ["points", "ties", "many"] (spx_least K mg) := by
  refine Fn.of At_least fun {f fd} F => F.ok1 sc_least (fun vs H Q E h => lenx3 h) (fun cdv A outer s H vs Q E hr h => ?_)
  exact ⟨_, (pss_cons (ps_expr (pe_callC GB_refuse_no_web hr rfl pass1S (pa_cons (pv 0) (pa_cons (pv 1) pa_nil)))) pss_never), runx3 (N := ["points", "ties", "many"]) h (fun v_points v_ties v_many =>
(sjx_first (sjx_expr (evx_2 (ev_var (i := 0)) (ev_var (i := 1))) kx_none)))⟩

noncomputable abbrev sp_fewest (K : PySem.W.Frag) : Sp := sp2 rInt (rL rII) (rtV rInt) m_fewest K
theorem fn_fewest (B : Blt K mg) (G_least : Fn P w K mg base CX0 4 "least" ["points", "ties", "many"] (sp_least K)) (At_fewest : At K mg "fewest" s_fewest ["points", "ties"]) : Fn P w K mg base CX0 5 "fewest" ["points", "ties"] (sp_fewest K) := Fn.of At_fewest fun {f fd} F => F.ok sc_fewest (fun vs H Q E h => len2 h) (fun cdv A outer s H vs Q E hr h => absurd h (no_2 fun _ _ => rfl))
noncomputable abbrev spx_fewest (K : PySem.W.Frag) (mg : Str → Option Value) : Sp := spx2 rInt (rL rII) x_fewest K mg
theorem fx_fewest (B : Blt K mg) (G_least : Fn P w K mg base CX0 4 "least" ["points", "ties", "many"] (sp_least K)) (GB_least : Fc P w K mg base (CX1 P w) 4 "least" (spB (sp_least K) (spx_least K mg))) (At_fewest : At K mg "fewest" s_fewest ["points", "ties"]) : Fn P w K mg base (CX1 P w) 5 "fewest" ["points", "ties"] (spx_fewest K mg) := by
  refine Fn.of At_fewest fun {f fd} F => F.ok1 sc_fewest (fun vs H Q E h => lenx2 h) (fun cdv A outer s H vs Q E hr h => ?_)
  exact ⟨_, (pss_cons (PS.nox (ps_set (i := 2) sc_fewest.nd rfl (Or.inl rfl) pe_int))
(pss_cons (ps_while PassesOwn.leaving (pt_cmpR op_isN (pe_callC GB_least hr rfl pass1S (pa_cons (pv 0) (pa_cons (pv 1) (pa_cons (pv 2) pa_nil)))) pe_non (nomark _)) pss_never) pss_never)), runx2 (N := ["points", "ties", "many"]) h (fun v_points v_ties =>
(by
  unfold x_fewest x_fewest_0
  exact (sjx_seq (rr := (rtV rInt)) (ks1 := fun (v_many_2 : Int) => [Kd.vis rInt v_points, Kd.vis (rL rII) v_ties, Kd.vis rInt v_many_2]) (sj_set ev_int) (fun v_many_2 => (sjx_first (sjx_while (evtx_cmp (evx_op (evx_3 (ev_var (i := 0)) (ev_var (i := 1)) (ev_var (i := 2))))) kx_none))))))⟩

noncomputable abbrev sp_refuse_no_setting (K : PySem.W.Frag) : Sp := sp3 rInt (rL rII) (rL rBool) (rtV rUnit) m_refuse_no_setting K
theorem fn_refuse_no_setting (B : Blt K mg) (G_refuse_no_web : Fn P w K mg base CX0 3 "refuse_no_web" ["points", "ties"] (sp_refuse_no_web K)) (At_refuse_no_setting : At K mg "refuse_no_setting" s_refuse_no_setting ["points", "ties", "arrows"]) : Fn P w K mg base CX0 4 "refuse_no_setting" ["points", "ties", "arrows"] (sp_refuse_no_setting K) := Fn.of At_refuse_no_setting fun {f fd} F => F.ok sc_refuse_no_setting (fun vs H Q E h => len3 h) (fun cdv A outer s H vs Q E hr h => absurd h (no_3 fun _ _ _ => rfl))
noncomputable abbrev spx_refuse_no_setting (K : PySem.W.Frag) (mg : Str → Option Value) : Sp := spx3 rInt (rL rII) (rL rBool) x_refuse_no_setting K mg
theorem fx_refuse_no_setting (B : Blt K mg) (G_refuse_no_web : Fn P w K mg base CX0 3 "refuse_no_web" ["points", "ties"] (sp_refuse_no_web K)) (GB_refuse_no_web : Fc P w K mg base (CX1 P w) 3 "refuse_no_web" (spB (sp_refuse_no_web K) (spx_refuse_no_web K mg))) (At_refuse_no_setting : At K mg "refuse_no_setting" s_refuse_no_setting ["points", "ties", "arrows"]) : Fn P w K mg base (CX1 P w) 4 "refuse_no_setting" ["points", "ties", "arrows"] (spx_refuse_no_setting K mg) := by
  refine Fn.of At_refuse_no_setting fun {f fd} F => F.ok1 sc_refuse_no_setting (fun vs H Q E h => lenx3 h) (fun cdv A outer s H vs Q E hr h => ?_)
  exact ⟨_, (pss_cons (ps_expr (pe_callC GB_refuse_no_web hr rfl pass1S (pa_cons (pv 0) (pa_cons (pv 1) pa_nil)))) pss_never), runx3 (N := ["points", "ties", "arrows"]) h (fun v_points v_ties v_arrows =>
(sjx_first (sjx_expr (evx_2 (ev_var (i := 0)) (ev_var (i := 1))) kx_none)))⟩

noncomputable abbrev sp_goes_round (K : PySem.W.Frag) : Sp := sp3 rInt (rL rII) (rL rBool) (rtV rBool) m_goes_round K
theorem fn_goes_round (B : Blt K mg) (G_refuse_no_setting : Fn P w K mg base CX0 4 "refuse_no_setting" ["points", "ties", "arrows"] (sp_refuse_no_setting K)) (At_goes_round : At K mg "goes_round" s_goes_round ["points", "ties", "arrows"]) : Fn P w K mg base CX0 5 "goes_round" ["points", "ties", "arrows"] (sp_goes_round K) := Fn.of At_goes_round fun {f fd} F => F.ok sc_goes_round (fun vs H Q E h => len3 h) (fun cdv A outer s H vs Q E hr h => absurd h (no_3 fun _ _ _ => rfl))
noncomputable abbrev spx_goes_round (K : PySem.W.Frag) (mg : Str → Option Value) : Sp := spx3 rInt (rL rII) (rL rBool) x_goes_round K mg
theorem fx_goes_round (B : Blt K mg) (G_refuse_no_setting : Fn P w K mg base CX0 4 "refuse_no_setting" ["points", "ties", "arrows"] (sp_refuse_no_setting K)) (GB_refuse_no_setting : Fc P w K mg base (CX1 P w) 4 "refuse_no_setting" (spB (sp_refuse_no_setting K) (spx_refuse_no_setting K mg))) (At_goes_round : At K mg "goes_round" s_goes_round ["points", "ties", "arrows"]) : Fn P w K mg base (CX1 P w) 5 "goes_round" ["points", "ties", "arrows"] (spx_goes_round K mg) := by
  refine Fn.of At_goes_round fun {f fd} F => F.ok1 sc_goes_round (fun vs H Q E h => lenx3 h) (fun cdv A outer s H vs Q E hr h => ?_)
  exact ⟨_, (pss_cons (ps_expr (pe_callC GB_refuse_no_setting hr rfl pass1S (pa_cons (pv 0) (pa_cons (pv 1) (pa_cons (pv 2) pa_nil))))) pss_never), runx3 (N := ["points", "ties", "arrows"]) h (fun v_points v_ties v_arrows =>
(sjx_first (sjx_expr (evx_3 (ev_var (i := 0)) (ev_var (i := 1)) (ev_var (i := 2))) kx_none)))⟩

noncomputable abbrev sp_ranks (K : PySem.W.Frag) : Sp := sp3 rInt (rL rII) (rL rBool) (rtV (rL rInt)) m_ranks K
theorem fn_ranks (B : Blt K mg) (G_refuse_no_setting : Fn P w K mg base CX0 4 "refuse_no_setting" ["points", "ties", "arrows"] (sp_refuse_no_setting K)) (At_ranks : At K mg "ranks" s_ranks ["points", "ties", "arrows"]) : Fn P w K mg base CX0 5 "ranks" ["points", "ties", "arrows"] (sp_ranks K) := Fn.of At_ranks fun {f fd} F => F.ok sc_ranks (fun vs H Q E h => len3 h) (fun cdv A outer s H vs Q E hr h => absurd h (no_3 fun _ _ _ => rfl))
noncomputable abbrev spx_ranks (K : PySem.W.Frag) (mg : Str → Option Value) : Sp := spx3 rInt (rL rII) (rL rBool) x_ranks K mg
theorem fx_ranks (B : Blt K mg) (G_refuse_no_setting : Fn P w K mg base CX0 4 "refuse_no_setting" ["points", "ties", "arrows"] (sp_refuse_no_setting K)) (GB_refuse_no_setting : Fc P w K mg base (CX1 P w) 4 "refuse_no_setting" (spB (sp_refuse_no_setting K) (spx_refuse_no_setting K mg))) (At_ranks : At K mg "ranks" s_ranks ["points", "ties", "arrows"]) : Fn P w K mg base (CX1 P w) 5 "ranks" ["points", "ties", "arrows"] (spx_ranks K mg) := by
  refine Fn.of At_ranks fun {f fd} F => F.ok1 sc_ranks (fun vs H Q E h => lenx3 h) (fun cdv A outer s H vs Q E hr h => ?_)
  exact ⟨_, (pss_cons (ps_expr (pe_callC GB_refuse_no_setting hr rfl pass1S (pa_cons (pv 0) (pa_cons (pv 1) (pa_cons (pv 2) pa_nil))))) pss_never), runx3 (N := ["points", "ties", "arrows", "lengths"]) h (fun v_points v_ties v_arrows =>
(sjx_first (sjx_expr (evx_3 (ev_var (i := 0)) (ev_var (i := 1)) (ev_var (i := 2))) kx_none)))⟩

noncomputable abbrev sp_setting_of (K : PySem.W.Frag) : Sp := sp3 rInt (rL rII) (rL rInt) (rtN rBool) m_setting_of K
theorem fn_setting_of (B : Blt K mg) (G_refuse_no_web : Fn P w K mg base CX0 3 "refuse_no_web" ["points", "ties"] (sp_refuse_no_web K)) (At_setting_of : At K mg "setting_of" s_setting_of ["points", "ties", "dyes"]) : Fn P w K mg base CX0 4 "setting_of" ["points", "ties", "dyes"] (sp_setting_of K) := Fn.of At_setting_of fun {f fd} F => F.ok sc_setting_of (fun vs H Q E h => len3 h) (fun cdv A outer s H vs Q E hr h => absurd h (no_3 fun _ _ _ => rfl))
noncomputable abbrev spx_setting_of (K : PySem.W.Frag) (mg : Str → Option Value) : Sp := spx3 rInt (rL rII) (rL rInt) x_setting_of K mg
theorem fx_setting_of (B : Blt K mg) (G_refuse_no_web : Fn P w K mg base CX0 3 "refuse_no_web" ["points", "ties"] (sp_refuse_no_web K)) (GB_refuse_no_web : Fc P w K mg base (CX1 P w) 3 "refuse_no_web" (spB (sp_refuse_no_web K) (spx_refuse_no_web K mg))) (At_setting_of : At K mg "setting_of" s_setting_of ["points", "ties", "dyes"]) : Fn P w K mg base (CX1 P w) 4 "setting_of" ["points", "ties", "dyes"] (spx_setting_of K mg) := by
  refine Fn.of At_setting_of fun {f fd} F => F.ok1 sc_setting_of (fun vs H Q E h => lenx3 h) (fun cdv A outer s H vs Q E hr h => ?_)
  exact ⟨_, (pss_cons (ps_expr (pe_callC GB_refuse_no_web hr rfl pass1S (pa_cons (pv 0) (pa_cons (pv 1) pa_nil)))) pss_never), runx3 (N := ["points", "ties", "dyes"]) h (fun v_points v_ties v_dyes =>
(sjx_first (sjx_expr (evx_2 (ev_var (i := 0)) (ev_var (i := 1))) kx_none)))⟩

noncomputable abbrev sp_flattest (K : PySem.W.Frag) : Sp := sp2 rInt (rL rII) (rtN rBool) m_flattest K
theorem fn_flattest (B : Blt K mg) (G_fewest : Fn P w K mg base CX0 5 "fewest" ["points", "ties"] (sp_fewest K)) (G_least : Fn P w K mg base CX0 4 "least" ["points", "ties", "many"] (sp_least K)) (G_setting_of : Fn P w K mg base CX0 4 "setting_of" ["points", "ties", "dyes"] (sp_setting_of K)) (At_flattest : At K mg "flattest" s_flattest ["points", "ties"]) : Fn P w K mg base CX0 6 "flattest" ["points", "ties"] (sp_flattest K) := Fn.of At_flattest fun {f fd} F => F.ok sc_flattest (fun vs H Q E h => len2 h) (fun cdv A outer s H vs Q E hr h => absurd h (no_2 fun _ _ => rfl))
noncomputable abbrev spx_flattest (K : PySem.W.Frag) (mg : Str → Option Value) : Sp := spx2 rInt (rL rII) x_flattest K mg
theorem fx_flattest (B : Blt K mg) (G_fewest : Fn P w K mg base CX0 5 "fewest" ["points", "ties"] (sp_fewest K)) (G_least : Fn P w K mg base CX0 4 "least" ["points", "ties", "many"] (sp_least K)) (G_setting_of : Fn P w K mg base CX0 4 "setting_of" ["points", "ties", "dyes"] (sp_setting_of K)) (GB_fewest : Fc P w K mg base (CX1 P w) 5 "fewest" (spB (sp_fewest K) (spx_fewest K mg))) (GB_least : Fc P w K mg base (CX1 P w) 4 "least" (spB (sp_least K) (spx_least K mg))) (GB_setting_of : Fc P w K mg base (CX1 P w) 4 "setting_of" (spB (sp_setting_of K) (spx_setting_of K mg))) (At_flattest : At K mg "flattest" s_flattest ["points", "ties"]) : Fn P w K mg base (CX1 P w) 6 "flattest" ["points", "ties"] (spx_flattest K mg) := by
  refine Fn.of At_flattest fun {f fd} F => F.ok1 sc_flattest (fun vs H Q E h => lenx2 h) (fun cdv A outer s H vs Q E hr h => ?_)
  exact ⟨_, (pss_cons (ps_ret (pe_callC GB_setting_of hr rfl pass1S (pa_cons (pv 0) (pa_cons (pv 1) (pa_cons (pe_callC GB_least hr rfl pass1S (pa_cons (pv 0) (pa_cons (pv 1) (pa_cons (pe_callC GB_fewest hr rfl pass1S (pa_cons (pv 0) (pa_cons (pv 1) pa_nil))) pa_nil)))) pa_nil))))) pss_never), runx2 (N := ["points", "ties"]) h (fun v_points v_ties =>
(sjx_first (sjx_ret (evx_argsS (eax_tail (ev_var (i := 0)) (eax_tail (ev_var (i := 1)) (eax_head (evx_argsS (eax_tail (ev_var (i := 0)) (eax_tail (ev_var (i := 1)) (eax_head (evx_2 (ev_var (i := 0)) (ev_var (i := 1))))))))))) kx_none)))⟩

noncomputable abbrev sp_row (K : PySem.W.Frag) : Sp := sp2 rInt (rL rII) (rtN rInt) m_row K
theorem fn_row (B : Blt K mg) (G_refuse_no_web : Fn P w K mg base CX0 3 "refuse_no_web" ["points", "ties"] (sp_refuse_no_web K)) (At_row : At K mg "row" s_row ["points", "ties"]) : Fn P w K mg base CX0 4 "row" ["points", "ties"] (sp_row K) := Fn.of At_row fun {f fd} F => F.ok sc_row (fun vs H Q E h => len2 h) (fun cdv A outer s H vs Q E hr h => absurd h (no_2 fun _ _ => rfl))
noncomputable abbrev spx_row (K : PySem.W.Frag) (mg : Str → Option Value) : Sp := spx2 rInt (rL rII) x_row K mg
theorem fx_row (B : Blt K mg) (G_refuse_no_web : Fn P w K mg base CX0 3 "refuse_no_web" ["points", "ties"] (sp_refuse_no_web K)) (GB_refuse_no_web : Fc P w K mg base (CX1 P w) 3 "refuse_no_web" (spB (sp_refuse_no_web K) (spx_refuse_no_web K mg))) (At_row : At K mg "row" s_row ["points", "ties"]) : Fn P w K mg base (CX1 P w) 4 "row" ["points", "ties"] (spx_row K mg) := by
  refine Fn.of At_row fun {f fd} F => F.ok1 sc_row (fun vs H Q E h => lenx2 h) (fun cdv A outer s H vs Q E hr h => ?_)
  exact ⟨_, (pss_cons (ps_expr (pe_callC GB_refuse_no_web hr rfl pass1S (pa_cons (pv 0) (pa_cons (pv 1) pa_nil)))) pss_never), runx2 (N := ["points", "ties"]) h (fun v_points v_ties =>
(sjx_first (sjx_expr (evx_2 (ev_var (i := 0)) (ev_var (i := 1))) kx_none)))⟩

noncomputable abbrev sp_worth (K : PySem.W.Frag) : Sp := sp2 (rL rInt) rInt (rtV rInt) m_worth K
theorem fn_worth (B : Blt K mg) (At_worth : At K mg "worth" s_worth ["numbers", "q"]) : Fn P w K mg base CX0 1 "worth" ["numbers", "q"] (sp_worth K) := Fn.of At_worth fun {f fd} F => F.ok sc_worth (fun vs H Q E h => len2 h) (fun cdv A outer s H vs Q E hr h => absurd h (no_2 fun _ _ => rfl))
noncomputable abbrev sp_settings (K : PySem.W.Frag) : Sp := sp2 rInt (rL rII) (rtV rInt) m_settings K
theorem fn_settings (B : Blt K mg) (G_row : Fn P w K mg base CX0 4 "row" ["points", "ties"] (sp_row K)) (G_worth : Fn P w K mg base CX0 1 "worth" ["numbers", "q"] (sp_worth K)) (At_settings : At K mg "settings" s_settings ["points", "ties"]) : Fn P w K mg base CX0 5 "settings" ["points", "ties"] (sp_settings K) := Fn.of At_settings fun {f fd} F => F.ok sc_settings (fun vs H Q E h => len2 h) (fun cdv A outer s H vs Q E hr h => absurd h (no_2 fun _ _ => rfl))
noncomputable abbrev spx_settings (K : PySem.W.Frag) (mg : Str → Option Value) : Sp := spx2 rInt (rL rII) x_settings K mg
theorem fx_settings (B : Blt K mg) (G_row : Fn P w K mg base CX0 4 "row" ["points", "ties"] (sp_row K)) (G_worth : Fn P w K mg base CX0 1 "worth" ["numbers", "q"] (sp_worth K)) (GB_row : Fc P w K mg base (CX1 P w) 4 "row" (spB (sp_row K) (spx_row K mg))) (At_settings : At K mg "settings" s_settings ["points", "ties"]) : Fn P w K mg base (CX1 P w) 5 "settings" ["points", "ties"] (spx_settings K mg) := by
  refine Fn.of At_settings fun {f fd} F => F.ok1 sc_settings (fun vs H Q E h => lenx2 h) (fun cdv A outer s H vs Q E hr h => ?_)
  exact ⟨_, (pss_cons (ps_ret (pe_callB call_abs rfl B.b_abs PyProof.Rows.boot_abs (pa_cons (pe_callF G_worth hr rfl pass0 (pa_cons (pe_callC GB_row hr rfl pass1S (pa_cons (pv 0) (pa_cons (pv 1) pa_nil))) (pa_cons (pe_un un_neg pe_int) pa_nil))) pa_nil))) pss_never), runx2 (N := ["points", "ties"]) h (fun v_points v_ties =>
(sjx_first (sjx_ret (evx_cb (eax_head (evx_args (eax_head (evx_2 (ev_var (i := 0)) (ev_var (i := 1))))))) kx_none)))⟩

noncomputable abbrev sp_from_spring (K : PySem.W.Frag) : Sp := sp3 rInt (rL rII) rInt (rtV rInt) m_from_spring K
theorem fn_from_spring (B : Blt K mg) (G_row : Fn P w K mg base CX0 4 "row" ["points", "ties"] (sp_row K)) (At_from_spring : At K mg "from_spring" s_from_spring ["points", "ties", "point"]) : Fn P w K mg base CX0 5 "from_spring" ["points", "ties", "point"] (sp_from_spring K) := Fn.of At_from_spring fun {f fd} F => F.ok sc_from_spring (fun vs H Q E h => len3 h) (fun cdv A outer s H vs Q E hr h => absurd h (no_3 fun _ _ _ => rfl))
noncomputable abbrev spx_from_spring (K : PySem.W.Frag) (mg : Str → Option Value) : Sp := spx3 rInt (rL rII) rInt x_from_spring K mg
theorem fx_from_spring (B : Blt K mg) (G_row : Fn P w K mg base CX0 4 "row" ["points", "ties"] (sp_row K)) (GB_row : Fc P w K mg base (CX1 P w) 4 "row" (spB (sp_row K) (spx_row K mg))) (At_from_spring : At K mg "from_spring" s_from_spring ["points", "ties", "point"]) : Fn P w K mg base (CX1 P w) 5 "from_spring" ["points", "ties", "point"] (spx_from_spring K mg) := by
  refine Fn.of At_from_spring fun {f fd} F => F.ok1 sc_from_spring (fun vs H Q E h => lenx3 h) (fun cdv A outer s H vs Q E hr h => ?_)
  exact ⟨_, (pss_cons (ps_set (i := 3) sc_from_spring.nd rfl (Or.inl rfl) (pe_callC GB_row hr rfl pass1S (pa_cons (pv 0) (pa_cons (pv 1) pa_nil)))) pss_never), runx3 (N := ["points", "ties", "point", "numbers"]) h (fun v_points v_ties v_point =>
(sjx_first (sjx_asg (evx_2 (ev_var (i := 0)) (ev_var (i := 1))) kx_none)))⟩

noncomputable abbrev sp_pairs (K : PySem.W.Frag) : Sp := sp3 rInt (rL rII) rInt (rtV rInt) m_pairs K
theorem fn_pairs (B : Blt K mg) (G_row : Fn P w K mg base CX0 4 "row" ["points", "ties"] (sp_row K)) (G_worth : Fn P w K mg base CX0 1 "worth" ["numbers", "q"] (sp_worth K)) (At_pairs : At K mg "pairs" s_pairs ["points", "ties", "q"]) : Fn P w K mg base CX0 5 "pairs" ["points", "ties", "q"] (sp_pairs K) := Fn.of At_pairs fun {f fd} F => F.ok sc_pairs (fun vs H Q E h => len3 h) (fun cdv A outer s H vs Q E hr h => absurd h (no_3 fun _ _ _ => rfl))
noncomputable abbrev spx_pairs (K : PySem.W.Frag) (mg : Str → Option Value) : Sp := spx3 rInt (rL rII) rInt x_pairs K mg
theorem fx_pairs (B : Blt K mg) (G_row : Fn P w K mg base CX0 4 "row" ["points", "ties"] (sp_row K)) (G_worth : Fn P w K mg base CX0 1 "worth" ["numbers", "q"] (sp_worth K)) (GB_row : Fc P w K mg base (CX1 P w) 4 "row" (spB (sp_row K) (spx_row K mg))) (At_pairs : At K mg "pairs" s_pairs ["points", "ties", "q"]) : Fn P w K mg base (CX1 P w) 5 "pairs" ["points", "ties", "q"] (spx_pairs K mg) := by
  refine Fn.of At_pairs fun {f fd} F => F.ok1 sc_pairs (fun vs H Q E h => lenx3 h) (fun cdv A outer s H vs Q E hr h => ?_)
  exact ⟨_, (pss_cons (ps_ret (pe_callB call_abs rfl B.b_abs PyProof.Rows.boot_abs (pa_cons (pe_callF G_worth hr rfl pass0 (pa_cons (pe_callC GB_row hr rfl pass1S (pa_cons (pv 0) (pa_cons (pv 1) pa_nil))) (pa_cons (pe_un un_neg (pv 2)) pa_nil))) pa_nil))) pss_never), runx3 (N := ["points", "ties", "q"]) h (fun v_points v_ties v_q =>
(sjx_first (sjx_ret (evx_cb (eax_head (evx_args (eax_head (evx_2 (ev_var (i := 0)) (ev_var (i := 1))))))) kx_none)))⟩

noncomputable abbrev sp_unbroken (K : PySem.W.Frag) : Sp := sp3 rInt (rL rII) rInt (rtV rInt) m_unbroken K
theorem fn_unbroken (B : Blt K mg) (G_row : Fn P w K mg base CX0 4 "row" ["points", "ties"] (sp_row K)) (At_unbroken : At K mg "unbroken" s_unbroken ["points", "ties", "many"]) : Fn P w K mg base CX0 5 "unbroken" ["points", "ties", "many"] (sp_unbroken K) := Fn.of At_unbroken fun {f fd} F => F.ok sc_unbroken (fun vs H Q E h => len3 h) (fun cdv A outer s H vs Q E hr h => absurd h (no_3 fun _ _ _ => rfl))
noncomputable abbrev spx_unbroken (K : PySem.W.Frag) (mg : Str → Option Value) : Sp := spx3 rInt (rL rII) rInt x_unbroken K mg
theorem fx_unbroken (B : Blt K mg) (G_row : Fn P w K mg base CX0 4 "row" ["points", "ties"] (sp_row K)) (GB_row : Fc P w K mg base (CX1 P w) 4 "row" (spB (sp_row K) (spx_row K mg))) (At_unbroken : At K mg "unbroken" s_unbroken ["points", "ties", "many"]) : Fn P w K mg base (CX1 P w) 5 "unbroken" ["points", "ties", "many"] (spx_unbroken K mg) := by
  refine Fn.of At_unbroken fun {f fd} F => F.ok1 sc_unbroken (fun vs H Q E h => lenx3 h) (fun cdv A outer s H vs Q E hr h => ?_)
  exact ⟨_, (pss_cons (ps_set (i := 3) sc_unbroken.nd rfl (Or.inl rfl) (pe_callC GB_row hr rfl pass1S (pa_cons (pv 0) (pa_cons (pv 1) pa_nil)))) pss_never), runx3 (N := ["points", "ties", "many", "numbers"]) h (fun v_points v_ties v_many =>
(sjx_first (sjx_asg (evx_2 (ev_var (i := 0)) (ev_var (i := 1))) kx_none)))⟩

noncomputable abbrev sp_shown (K : PySem.W.Frag) : Sp := sp2 rInt (rL rII) (rtV rStr) m_shown K
theorem fn_shown (B : Blt K mg) (G_refuse_no_web : Fn P w K mg base CX0 3 "refuse_no_web" ["points", "ties"] (sp_refuse_no_web K)) (At_shown : At K mg "shown" s_shown ["points", "ties"]) : Fn P w K mg base CX0 4 "shown" ["points", "ties"] (sp_shown K) := Fn.of At_shown fun {f fd} F => F.ok sc_shown (fun vs H Q E h => len2 h) (fun cdv A outer s H vs Q E hr h => absurd h (no_2 fun _ _ => rfl))
noncomputable abbrev spx_shown (K : PySem.W.Frag) (mg : Str → Option Value) : Sp := spx2 rInt (rL rII) x_shown K mg
theorem fx_shown (B : Blt K mg) (G_refuse_no_web : Fn P w K mg base CX0 3 "refuse_no_web" ["points", "ties"] (sp_refuse_no_web K)) (GB_refuse_no_web : Fc P w K mg base (CX1 P w) 3 "refuse_no_web" (spB (sp_refuse_no_web K) (spx_refuse_no_web K mg))) (At_shown : At K mg "shown" s_shown ["points", "ties"]) : Fn P w K mg base (CX1 P w) 4 "shown" ["points", "ties"] (spx_shown K mg) := by
  refine Fn.of At_shown fun {f fd} F => F.ok1 sc_shown (fun vs H Q E h => lenx2 h) (fun cdv A outer s H vs Q E hr h => ?_)
  exact ⟨_, (pss_cons (ps_expr (pe_callC GB_refuse_no_web hr rfl pass1S (pa_cons (pv 0) (pa_cons (pv 1) pa_nil)))) pss_never), runx2 (N := ["points", "ties"]) h (fun v_points v_ties =>
(sjx_first (sjx_expr (evx_2 (ev_var (i := 0)) (ev_var (i := 1))) kx_none)))⟩

noncomputable abbrev sp__law_cell_at (K : PySem.W.Frag) : Sp := sp2 (rLs rInt) rInt (rtV rInt) m__law_cell_at K
theorem fn__law_cell_at (B : Blt K mg) (At__law_cell_at : At K mg "_law_cell_at" s__law_cell_at ["script", "k"]) : Fn P w K mg base CX0 1 "_law_cell_at" ["script", "k"] (sp__law_cell_at K) := by
  refine Fn.of At__law_cell_at fun {f fd} F => F.ok sc__law_cell_at (fun vs H Q E h => len2 h) (fun cdv A outer s H vs Q E hr h => ?_)
  exact ⟨_, (pss_cons (ps_if (pt_cmpR op_lt (pv 1) (pe_callB call_len_seq rfl B.b_len PySem.boot_len (pa_cons (pv 0) pa_nil)) (nomark _))
(pss_one (ps_ret (pe_ix (ix_list) (pv 0) (pv 1) (fun _ _ => rfl))))
pss_nil)
(pss_one (ps_ret pe_int))), run2 (N := ["script", "k"]) (m := b__law_cell_at) (ks' := fun _ _ _ => [Kd.any, Kd.any]) h (fun _ _ => rfl) (fun v_script v_k =>
(sj_seq (ks1 := fun (s1 : Unit) => [Kd.vis (rLs rInt) v_script, Kd.vis rInt v_k])
(sj_if (ks' := fun (s1 : Unit) => [Kd.vis (rLs rInt) v_script, Kd.vis rInt v_k]) (et_cmp (ev_op (o_cmp0 (g := fun i j => decide (i < j))) (ev_var (i := 1)) (ev_cb1 o_len (ev_var (i := 0)).slo)))
(sj_ret (ev_op o_ix (ev_var (i := 0)).slo (ev_var (i := 1))))
(sj_next (KWk.same (KWk.same KWk.nil)))) (fun s1 =>
(sj_ret ev_int))))⟩
noncomputable abbrev sp__law_next (K : PySem.W.Frag) : Sp := sp1 rInt (rtV rInt) m__law_next K
theorem fn__law_next (B : Blt K mg) (At__law_next : At K mg "_law_next" s__law_next ["seed"]) : Fn P w K mg base CX0 1 "_law_next" ["seed"] (sp__law_next K) := by
  refine Fn.of At__law_next fun {f fd} F => F.ok sc__law_next (fun vs H Q E h => len1 h) (fun cdv A outer s H vs Q E hr h => ?_)
  exact ⟨_, (pss_one (ps_ret (pe_op op_mod (pe_op op_add (pe_op op_mul (pv 0) pe_int) pe_int) pe_int))), run1 (N := ["seed"]) (m := b__law_next) (ks' := fun _ _ => [Kd.any]) h (fun _ => rfl) (fun v_seed =>
(sj_ret (ev_op o_mod (ev_op o_int0 (ev_op o_mul (ev_var (i := 0)) ev_int) ev_int) ev_int)))⟩
noncomputable abbrev sp__law_web_by (K : PySem.W.Frag) : Sp := sp4 (rLs rInt) rInt rInt rInt (rtV (rPr rInt (rL rII))) m__law_web_by K
theorem fn__law_web_by (B : Blt K mg) (G__law_cell_at : Fn P w K mg base CX0 1 "_law_cell_at" ["script", "k"] (sp__law_cell_at K)) (G__law_next : Fn P w K mg base CX0 1 "_law_next" ["seed"] (sp__law_next K)) (At__law_web_by : At K mg "_law_web_by" s__law_web_by ["script", "k", "most", "cap"]) : Fn P w K mg base CX0 2 "_law_web_by" ["script", "k", "most", "cap"] (sp__law_web_by K) := by
  refine Fn.of At__law_web_by fun {f fd} F => F.ok sc__law_web_by (fun vs H Q E h => len4 h) (fun cdv A outer s H vs Q E hr h => ?_)
  exact ⟨_, (pss_cons (ps_set (i := 4) sc__law_web_by.nd rfl (Or.inl rfl) (pe_op op_mod (pe_callF G__law_cell_at hr rfl pass0 (pa_cons (pv 0) (pa_cons (pv 1) pa_nil))) (pe_op op_add (pv 2) pe_int)))
(pss_cons (ps_set (i := 5) sc__law_web_by.nd rfl (Or.inl rfl) (pe_callF G__law_next hr rfl pass0 (pa_cons (pe_callF G__law_cell_at hr rfl pass0 (pa_cons (pv 0) (pa_cons (pe_op op_add (pv 1) pe_int) pa_nil))) pa_nil)))
(pss_cons (ps_set (i := 6) sc__law_web_by.nd rfl (Or.inl rfl) (pe_op op_add pe_int (pe_op op_mod (pe_callF G__law_cell_at hr rfl pass0 (pa_cons (pv 0) (pa_cons (pe_op op_add (pv 1) pe_int) pa_nil))) pe_int)))
(pss_cons (ps_set (i := 7) sc__law_web_by.nd rfl (Or.inl rfl) (pe_lst pa_nil))
(pss_cons (ps_for PassesOwn.never rfl (pi_range1 rfl B.b_range (pa_cons (pv 4) pa_nil)) (pg_name (i := 8) sc__law_web_by.nd rfl (Or.inl rfl))
(pss_one (ps_for PassesOwn.never rfl (pi_range2 rfl B.b_range (pa_cons (pe_op op_add (pv 8) pe_int) (pa_cons (pv 4) pa_nil))) (pg_name (i := 9) sc__law_web_by.nd rfl (Or.inl rfl))
(pss_cons (ps_if (PW.pt (pw_and (pt_cmpR op_lt (pe_op op_mod (pe_op op_fdivB (pv 5) pe_int) pe_int) (pv 6) (nomark _)) (pw_and1 (pt_cmpR op_lt (pe_callB call_len_seq rfl B.b_len PySem.boot_len (pa_cons (pv 7) pa_nil)) (pv 3) (nomark _)))))
(pss_one (ps_expr (pe_bm PySem.F.plainAttrs_list PySem.F.slot_list_append PySem.F.type_list_append mt_append (pv 7) (pa_cons (pe_tup (pa_cons (pv 8) (pa_cons (pv 9) pa_nil))) pa_nil))))
pss_nil)
(pss_one (ps_set (i := 5) sc__law_web_by.nd rfl (Or.inl rfl) (pe_callF G__law_next hr rfl pass0 (pa_cons (pv 5) pa_nil))))))))
(pss_one (ps_ret (pe_tup (pa_cons (pv 4) (pa_cons (pv 7) pa_nil)))))))))), run4 (N := ["script", "k", "most", "cap", "points", "seed", "thick", "ties", "low", "high"]) (m := b__law_web_by) (ks' := fun _ _ _ _ _ => [Kd.any, Kd.any, Kd.any, Kd.any, Kd.any, Kd.any, Kd.any, Kd.any, Kd.any, Kd.any]) h (fun _ _ _ _ => rfl) (fun v_script v_k v_most v_cap =>
(sj_seq (ks1 := fun (v_points_1 : Int) => [Kd.vis (rLs rInt) v_script, Kd.vis rInt v_k, Kd.vis rInt v_most, Kd.vis rInt v_cap, Kd.vis rInt v_points_1, Kd.any, Kd.any, Kd.any, Kd.any, Kd.any])
(sj_set (ev_op o_mod (EvR.ev (er_2 (ev_var (i := 0)) (ev_var (i := 1)))) (ev_op o_int0 (ev_var (i := 2)) ev_int))) (fun v_points_1 =>
(sj_seq (ks1 := fun (v_seed_2 : Int) => [Kd.vis (rLs rInt) v_script, Kd.vis rInt v_k, Kd.vis rInt v_most, Kd.vis rInt v_cap, Kd.vis rInt v_points_1, Kd.vis rInt v_seed_2, Kd.any, Kd.any, Kd.any, Kd.any])
(sj_set (EvR.ev (er_1 (EvR.ev (er_2 (ev_var (i := 0)) (ev_op o_int0 (ev_var (i := 1)) ev_int)))))) (fun v_seed_2 =>
(sj_seq (ks1 := fun (v_thick_3 : Int) => [Kd.vis (rLs rInt) v_script, Kd.vis rInt v_k, Kd.vis rInt v_most, Kd.vis rInt v_cap, Kd.vis rInt v_points_1, Kd.vis rInt v_seed_2, Kd.vis rInt v_thick_3, Kd.any, Kd.any, Kd.any])
(sj_set (ev_op o_int0 ev_int (ev_op o_mod (EvR.ev (er_2 (ev_var (i := 0)) (ev_op o_int0 (ev_var (i := 1)) ev_int))) ev_int))) (fun v_thick_3 =>
(sj_seq (ks1 := fun (v_ties_4 : (List (Int × Int))) => [Kd.vis (rLs rInt) v_script, Kd.vis rInt v_k, Kd.vis rInt v_most, Kd.vis rInt v_cap, Kd.vis rInt v_points_1, Kd.vis rInt v_seed_2, Kd.vis rInt v_thick_3, Kd.own rII v_ties_4, Kd.any, Kd.any])
(sj_own (en_lst (r := rII) ea_nil)) (fun v_ties_4 =>
(sj_seq (ks1 := fun (s13 : (Int × (List (Int × Int)))) => [Kd.vis (rLs rInt) v_script, Kd.vis rInt v_k, Kd.vis rInt v_most, Kd.vis rInt v_cap, Kd.vis rInt v_points_1, Kd.vis rInt s13.1, Kd.vis rInt v_thick_3, Kd.own rII s13.2, Kd.any, Kd.any])
(sj_forR1 (kh := fun s5 => [Kd.vis (rLs rInt) v_script, Kd.vis rInt v_k, Kd.vis rInt v_most, Kd.vis rInt v_cap, Kd.vis rInt v_points_1, Kd.vis rInt s5.1, Kd.vis rInt v_thick_3, Kd.own rII s5.2, Kd.any, Kd.any]) (s0 := (v_seed_2, v_ties_4)) (ev_var (i := 4)) (KWk.same (KWk.same (KWk.same (KWk.same (KWk.same (KWk.same (KWk.same (KWk.same (KWk.any (KWk.any KWk.nil)))))))))) gj_name (fun x6 s5 =>
(sj_post (g := (fun (s12 : (Int × (List (Int × Int)))) => ((s12.1, s12.2) : (Int × (List (Int × Int))))))
(sj_forR2 (kh := fun s7 => [Kd.vis (rLs rInt) v_script, Kd.vis rInt v_k, Kd.vis rInt v_most, Kd.vis rInt v_cap, Kd.vis rInt v_points_1, Kd.vis rInt s7.1, Kd.vis rInt v_thick_3, Kd.own rII s7.2, Kd.vis rInt x6, Kd.any]) (s0 := (s5.1, s5.2)) (ev_op o_int0 (ev_var (i := 8)) ev_int) (ev_var (i := 4)) (KWk.same (KWk.same (KWk.same (KWk.same (KWk.same (KWk.same (KWk.same (KWk.same (KWk.same (KWk.any KWk.nil)))))))))) gj_name (fun x8 s7 =>
(sj_seq (ks1 := fun (s9 : ((List (Int × Int)))) => [Kd.vis (rLs rInt) v_script, Kd.vis rInt v_k, Kd.vis rInt v_most, Kd.vis rInt v_cap, Kd.vis rInt v_points_1, Kd.vis rInt s7.1, Kd.vis rInt v_thick_3, Kd.own rII s9, Kd.vis rInt x6, Kd.vis rInt x8])
(sj_if (ks' := fun (s9 : ((List (Int × Int)))) => [Kd.vis (rLs rInt) v_script, Kd.vis rInt v_k, Kd.vis rInt v_most, Kd.vis rInt v_cap, Kd.vis rInt v_points_1, Kd.vis rInt s7.1, Kd.vis rInt v_thick_3, Kd.own rII s9, Kd.vis rInt x6, Kd.vis rInt x8]) (et_and (et_cmp (ev_op (o_cmp0 (g := fun i j => decide (i < j))) (ev_op o_mod (ev_op o_div (ev_var (i := 5)) ev_int) ev_int) (ev_var (i := 6)))) (et_cmp (ev_op (o_cmp0 (g := fun i j => decide (i < j))) (ev_cb1 o_len (ev_own (i := 7)).celo) (ev_var (i := 3)))))
(sj_post (g := (fun (v_ties_10 : (List (Int × Int))) => (v_ties_10 : ((List (Int × Int))))))
(sj_append (i := 7) (ev_pair (ev_var (i := 8)) (ev_var (i := 9)))) (fun v_ties_10 => (KWk.same (KWk.same (KWk.same (KWk.same (KWk.same (KWk.same (KWk.same (KWk.same (KWk.same (KWk.same KWk.nil))))))))))))
(sj_next (KWk.same (KWk.same (KWk.same (KWk.same (KWk.same (KWk.same (KWk.same (KWk.same (KWk.same (KWk.same KWk.nil)))))))))))) (fun s9 =>
(sj_post (g := (fun (v_seed_11 : Int) => ((v_seed_11, s9) : (Int × (List (Int × Int))))))
(sj_set (EvR.ev (er_1 (ev_var (i := 5))))) (fun v_seed_11 => (KWk.same (KWk.same (KWk.same (KWk.same (KWk.same (KWk.same (KWk.same (KWk.same (KWk.same (KWk.any KWk.nil)))))))))))))))) (fun s12 => (KWk.same (KWk.same (KWk.same (KWk.same (KWk.same (KWk.same (KWk.same (KWk.same (KWk.any (KWk.any KWk.nil)))))))))))))) (fun s13 =>
(sj_ret (ev_pair (ev_var (i := 4)) (ev_var (i := 7)))))))))))))))⟩
noncomputable abbrev sp__law_spoilt (K : PySem.W.Frag) : Sp := sp3 (rL rII) rInt rInt (rtN rII) m__law_spoilt K
theorem fn__law_spoilt (B : Blt K mg) (At__law_spoilt : At K mg "_law_spoilt" s__law_spoilt ["ties", "way", "cell"]) : Fn P w K mg base CX0 1 "_law_spoilt" ["ties", "way", "cell"] (sp__law_spoilt K) := by
  refine Fn.of At__law_spoilt fun {f fd} F => F.ok sc__law_spoilt (fun vs H Q E h => len3 h) (fun cdv A outer s H vs Q E hr h => ?_)
  exact ⟨_, (pss_cons (ps_set (i := 3) sc__law_spoilt.nd rfl (Or.inl rfl) (pe_op op_mod (pv 2) (pe_callB call_len_seq rfl B.b_len PySem.boot_len (pa_cons (pv 0) pa_nil))))
(pss_cons (ps_set (i := 4) sc__law_spoilt.nd rfl (Or.inl rfl) (pe_ix (ix_list) (pe_lst (pa_cons (pe_tup (pa_cons (pe_un un_neg pe_int) (pa_cons (pe_ix (ix_tup) (pe_ix (ix_list) (pv 0) (pv 3) (fun _ _ => rfl)) pe_int (fun _ _ => rfl)) pa_nil))) (pa_cons (pe_tup (pa_cons (pe_ix (ix_tup) (pe_ix (ix_list) (pv 0) (pv 3) (fun _ _ => rfl)) pe_int (fun _ _ => rfl)) (pa_cons (pe_op op_add pe_int (pe_op op_mod (pe_op op_fdivB (pv 2) pe_int) pe_int)) pa_nil))) (pa_cons (pe_tup (pa_cons (pe_ix (ix_tup) (pe_ix (ix_list) (pv 0) (pv 3) (fun _ _ => rfl)) pe_int (fun _ _ => rfl)) (pa_cons (pe_ix (ix_tup) (pe_ix (ix_list) (pv 0) (pv 3) (fun _ _ => rfl)) pe_int (fun _ _ => rfl)) pa_nil))) pa_nil)))) (pe_op op_mod (pe_op op_fdivB (pv 2) pe_int) pe_int) (fun _ _ => rfl)))
(pss_cons (ps_if (pt_cmpR op_eq (pv 1) pe_int (nomark _))
(pss_one (ps_ret (pe_op op_cat (pe_op op_cat (pe_slice sl_list (pv 0) po_none (po_some (pv 3))) (pe_lst (pa_cons (pe_ix (ix_list) (pv 0) (pv 3) (fun _ _ => rfl)) pa_nil))) (pe_slice sl_list (pv 0) (po_some (pv 3)) po_none))))
pss_nil)
(pss_cons (ps_if (pt_cmpR op_eq (pv 1) pe_int (nomark _))
(pss_one (ps_ret (pe_op op_cat (pe_op op_cat (pe_slice sl_list (pv 0) po_none (po_some (pv 3))) (pe_lst (pa_cons (pe_tup (pa_cons (pe_ix (ix_tup) (pe_ix (ix_list) (pv 0) (pv 3) (fun _ _ => rfl)) pe_int (fun _ _ => rfl)) (pa_cons (pe_ix (ix_tup) (pe_ix (ix_list) (pv 0) (pv 3) (fun _ _ => rfl)) pe_int (fun _ _ => rfl)) pa_nil))) pa_nil))) (pe_slice sl_list (pv 0) (po_some (pe_op op_add (pv 3) pe_int)) po_none))))
pss_nil)
(pss_cons (ps_if (pt_cmpR op_eq (pv 1) pe_int (nomark _))
(pss_one (ps_ret (pe_op op_cat (pe_op op_cat (pe_slice sl_list (pv 0) po_none (po_some (pv 3))) (pe_lst (pa_cons (pv 4) pa_nil))) (pe_slice sl_list (pv 0) (po_some (pe_op op_add (pv 3) pe_int)) po_none))))
pss_nil)
(pss_cons (ps_if (pt_cmpR op_eq (pv 1) pe_int (nomark _))
(pss_one (ps_ret (pe_op op_cat (pv 0) (pv 0))))
pss_nil)
(pss_one (ps_ret (pe_op op_cat (pe_revS (pv 0) (pe_un un_neg pe_int)) (pe_slice sl_list (pv 0) po_none (po_some pe_int))))))))))), run3 (N := ["ties", "way", "cell", "at", "bad"]) (m := b__law_spoilt) (ks' := fun _ _ _ _ => [Kd.any, Kd.any, Kd.any, Kd.any, Kd.any]) h (fun _ _ _ => rfl) (fun v_ties v_way v_cell =>
(sj_seq (ks1 := fun (v_at_1 : Int) => [Kd.vis (rL rII) v_ties, Kd.vis rInt v_way, Kd.vis rInt v_cell, Kd.vis rInt v_at_1, Kd.any])
(sj_set (ev_op o_mod (ev_var (i := 2)) (ev_cb1 o_len (ev_var (i := 0)).lo))) (fun v_at_1 =>
(sj_seq (ks1 := fun (v_bad_2 : (Int × Int)) => [Kd.vis (rL rII) v_ties, Kd.vis rInt v_way, Kd.vis rInt v_cell, Kd.vis rInt v_at_1, Kd.vis rII v_bad_2])
(sj_set (ev_op o_ix (en_lst (r := rII) (ea_cons (ev_pair (ev_un o_neg ev_int) (ev_snd (ev_op o_ix (ev_var (i := 0)).lo (ev_var (i := 3))))) (ea_cons (ev_pair (ev_fst (ev_op o_ix (ev_var (i := 0)).lo (ev_var (i := 3)))) (ev_op o_int0 ev_int (ev_op o_mod (ev_op o_div (ev_var (i := 2)) ev_int) ev_int))) (ea_cons (ev_pair (ev_fst (ev_op o_ix (ev_var (i := 0)).lo (ev_var (i := 3)))) (ev_fst (ev_op o_ix (ev_var (i := 0)).lo (ev_var (i := 3))))) ea_nil)))).ev.lo (ev_op o_mod (ev_op o_div (ev_var (i := 2)) ev_int) ev_int))) (fun v_bad_2 =>
(sj_seq (ks1 := fun (s3 : Unit) => [Kd.vis (rL rII) v_ties, Kd.vis rInt v_way, Kd.vis rInt v_cell, Kd.vis rInt v_at_1, Kd.vis rII v_bad_2])
(sj_if (ks' := fun (s3 : Unit) => [Kd.vis (rL rII) v_ties, Kd.vis rInt v_way, Kd.vis rInt v_cell, Kd.vis rInt v_at_1, Kd.vis rII v_bad_2]) (et_cmp (ev_op o_eqI (ev_var (i := 1)) ev_int))
(sj_retN (en_cat (EvN.ce (en_cat (EvN.ce (en_slice (ev_var (i := 0)).lo eo_none (eo_some (ev_var (i := 3))))) (EvN.ce (en_lst (r := rII) (ea_cons (ev_op o_ix (ev_var (i := 0)).lo (ev_var (i := 3))) ea_nil))))) (EvN.ce (en_slice (ev_var (i := 0)).lo (eo_some (ev_var (i := 3))) eo_none))))
(sj_next (KWk.same (KWk.same (KWk.same (KWk.same (KWk.same KWk.nil))))))) (fun s3 =>
(sj_seq (ks1 := fun (s4 : Unit) => [Kd.vis (rL rII) v_ties, Kd.vis rInt v_way, Kd.vis rInt v_cell, Kd.vis rInt v_at_1, Kd.vis rII v_bad_2])
(sj_if (ks' := fun (s4 : Unit) => [Kd.vis (rL rII) v_ties, Kd.vis rInt v_way, Kd.vis rInt v_cell, Kd.vis rInt v_at_1, Kd.vis rII v_bad_2]) (et_cmp (ev_op o_eqI (ev_var (i := 1)) ev_int))
(sj_retN (en_cat (EvN.ce (en_cat (EvN.ce (en_slice (ev_var (i := 0)).lo eo_none (eo_some (ev_var (i := 3))))) (EvN.ce (en_lst (r := rII) (ea_cons (ev_pair (ev_snd (ev_op o_ix (ev_var (i := 0)).lo (ev_var (i := 3)))) (ev_fst (ev_op o_ix (ev_var (i := 0)).lo (ev_var (i := 3))))) ea_nil))))) (EvN.ce (en_slice (ev_var (i := 0)).lo (eo_some (ev_op o_int0 (ev_var (i := 3)) ev_int)) eo_none))))
(sj_next (KWk.same (KWk.same (KWk.same (KWk.same (KWk.same KWk.nil))))))) (fun s4 =>
(sj_seq (ks1 := fun (s5 : Unit) => [Kd.vis (rL rII) v_ties, Kd.vis rInt v_way, Kd.vis rInt v_cell, Kd.vis rInt v_at_1, Kd.vis rII v_bad_2])
(sj_if (ks' := fun (s5 : Unit) => [Kd.vis (rL rII) v_ties, Kd.vis rInt v_way, Kd.vis rInt v_cell, Kd.vis rInt v_at_1, Kd.vis rII v_bad_2]) (et_cmp (ev_op o_eqI (ev_var (i := 1)) ev_int))
(sj_retN (en_cat (EvN.ce (en_cat (EvN.ce (en_slice (ev_var (i := 0)).lo eo_none (eo_some (ev_var (i := 3))))) (EvN.ce (en_lst (r := rII) (ea_cons (ev_var (i := 4)) ea_nil))))) (EvN.ce (en_slice (ev_var (i := 0)).lo (eo_some (ev_op o_int0 (ev_var (i := 3)) ev_int)) eo_none))))
(sj_next (KWk.same (KWk.same (KWk.same (KWk.same (KWk.same KWk.nil))))))) (fun s5 =>
(sj_seq (ks1 := fun (s6 : Unit) => [Kd.vis (rL rII) v_ties, Kd.vis rInt v_way, Kd.vis rInt v_cell, Kd.vis rInt v_at_1, Kd.vis rII v_bad_2])
(sj_if (ks' := fun (s6 : Unit) => [Kd.vis (rL rII) v_ties, Kd.vis rInt v_way, Kd.vis rInt v_cell, Kd.vis rInt v_at_1, Kd.vis rII v_bad_2]) (et_cmp (ev_op o_eqI (ev_var (i := 1)) ev_int))
(sj_retN (en_cat (Ev.ce (ev_var (i := 0))) (Ev.ce (ev_var (i := 0)))))
(sj_next (KWk.same (KWk.same (KWk.same (KWk.same (KWk.same KWk.nil))))))) (fun s6 =>
(sj_retN (en_cat (EvN.ce (en_revS (ev_var (i := 0)).lo (ev_un o_neg ev_int))) (EvN.ce (en_slice (ev_var (i := 0)).lo eo_none (eo_some ev_int))))))))))))))))))⟩
noncomputable abbrev sp__law_first_eight (K : PySem.W.Frag) : Sp := sp3 rInt rInt (rL rII) (rtV rUnit) m__law_first_eight K
theorem fn__law_first_eight (B : Blt K mg) (G_beside : Fn P w K mg base CX0 4 "beside" ["points", "ties", "more", "others"] (sp_beside K)) (G_fewest : Fn P w K mg base CX0 5 "fewest" ["points", "ties"] (sp_fewest K)) (G_is_dyeing : Fn P w K mg base CX0 4 "is_dyeing" ["points", "ties", "dyes", "many"] (sp_is_dyeing K)) (G_least : Fn P w K mg base CX0 4 "least" ["points", "ties", "many"] (sp_least K)) (G_pieces : Fn P w K mg base CX0 4 "pieces" ["points", "ties"] (sp_pieces K)) (G_row : Fn P w K mg base CX0 4 "row" ["points", "ties"] (sp_row K)) (G_shown : Fn P w K mg base CX0 4 "shown" ["points", "ties"] (sp_shown K)) (At__law_first_eight : At K mg "_law_first_eight" s__law_first_eight ["which", "points", "ties"]) : Fn P w K mg base CX0 6 "_law_first_eight" ["which", "points", "ties"] (sp__law_first_eight K) := by
  refine Fn.of At__law_first_eight fun {f fd} F => F.ok sc__law_first_eight (fun vs H Q E h => len3 h) (fun cdv A outer s H vs Q E hr h => ?_)
  exact ⟨_, (pss_cons (ps_if (pt_cmpR op_eq (pv 0) pe_int (nomark _))
(pss_one (ps_expr (pe_callF G_pieces hr rfl pass0 (pa_cons (pv 1) (pa_cons (pv 2) pa_nil)))))
pss_nil)
(pss_cons (ps_if (pt_cmpR op_eq (pv 0) pe_int (nomark _))
(pss_one (ps_expr (pe_callF G_beside hr rfl pass0 (pa_cons (pv 1) (pa_cons (pv 2) (pa_cons pe_int (pa_cons (pe_lst pa_nil) pa_nil)))))))
pss_nil)
(pss_cons (ps_if (pt_cmpR op_eq (pv 0) pe_int (nomark _))
(pss_one (ps_expr (pe_callF G_beside hr rfl pass0 (pa_cons pe_int (pa_cons (pe_lst pa_nil) (pa_cons (pv 1) (pa_cons (pv 2) pa_nil)))))))
pss_nil)
(pss_cons (ps_if (pt_cmpR op_eq (pv 0) pe_int (nomark _))
(pss_one (ps_expr (pe_callF G_row hr rfl pass0 (pa_cons (pv 1) (pa_cons (pv 2) pa_nil)))))
pss_nil)
(pss_cons (ps_if (pt_cmpR op_eq (pv 0) pe_int (nomark _))
(pss_one (ps_expr (pe_callF G_is_dyeing hr rfl pass0 (pa_cons (pv 1) (pa_cons (pv 2) (pa_cons (pe_lst (pa_cons pe_int pa_nil)) (pa_cons pe_int pa_nil)))))))
pss_nil)
(pss_cons (ps_if (pt_cmpR op_eq (pv 0) pe_int (nomark _))
(pss_one (ps_expr (pe_callF G_fewest hr rfl pass0 (pa_cons (pv 1) (pa_cons (pv 2) pa_nil)))))
pss_nil)
(pss_cons (ps_if (pt_cmpR op_eq (pv 0) pe_int (nomark _))
(pss_one (ps_expr (pe_callF G_least hr rfl pass0 (pa_cons (pv 1) (pa_cons (pv 2) (pa_cons pe_int pa_nil))))))
pss_nil)
(pss_one (ps_if (pt_cmpR op_eq (pv 0) pe_int (nomark _))
(pss_one (ps_expr (pe_callF G_shown hr rfl pass0 (pa_cons (pv 1) (pa_cons (pv 2) pa_nil)))))
pss_nil))))))))), runU3 (N := ["which", "points", "ties"]) (m := b__law_first_eight) (ks' := fun _ _ _ _ => [Kd.any, Kd.any, Kd.any]) h (fun _ _ _ => rfl) (fun v_which v_points v_ties =>
(sj_seq (ks1 := fun (s15 : Unit) => [Kd.vis rInt v_which, Kd.vis rInt v_points, Kd.vis (rL rII) v_ties])
(sj_if (ks' := fun (s15 : Unit) => [Kd.vis rInt v_which, Kd.vis rInt v_points, Kd.vis (rL rII) v_ties]) (et_cmp (ev_op o_eqI (ev_var (i := 0)) ev_int))
(sj_post (g := (fun (u16 : Unit) => (() : Unit)))
(sj_expr (EvN.ev (EvR.en (er_2 (ev_var (i := 1)) (ev_var (i := 2)))))) (fun u16 => (KWk.same (KWk.same (KWk.same KWk.nil)))))
(sj_next (KWk.same (KWk.same (KWk.same KWk.nil))))) (fun s15 =>
(sj_seq (ks1 := fun (s17 : Unit) => [Kd.vis rInt v_which, Kd.vis rInt v_points, Kd.vis (rL rII) v_ties])
(sj_if (ks' := fun (s17 : Unit) => [Kd.vis rInt v_which, Kd.vis rInt v_points, Kd.vis (rL rII) v_ties]) (et_cmp (ev_op o_eqI (ev_var (i := 0)) ev_int))
(sj_post (g := (fun (u18 : Unit) => (() : Unit)))
(sj_expr (EvN.ev (EvR.en (er_4 (ev_var (i := 1)) (ev_var (i := 2)) ev_int (en_lst (r := rII) ea_nil).ev)))) (fun u18 => (KWk.same (KWk.same (KWk.same KWk.nil)))))
(sj_next (KWk.same (KWk.same (KWk.same KWk.nil))))) (fun s17 =>
(sj_seq (ks1 := fun (s19 : Unit) => [Kd.vis rInt v_which, Kd.vis rInt v_points, Kd.vis (rL rII) v_ties])
(sj_if (ks' := fun (s19 : Unit) => [Kd.vis rInt v_which, Kd.vis rInt v_points, Kd.vis (rL rII) v_ties]) (et_cmp (ev_op o_eqI (ev_var (i := 0)) ev_int))
(sj_post (g := (fun (u20 : Unit) => (() : Unit)))
(sj_expr (EvN.ev (EvR.en (er_4 ev_int (en_lst (r := rII) ea_nil).ev (ev_var (i := 1)) (ev_var (i := 2)))))) (fun u20 => (KWk.same (KWk.same (KWk.same KWk.nil)))))
(sj_next (KWk.same (KWk.same (KWk.same KWk.nil))))) (fun s19 =>
(sj_seq (ks1 := fun (s21 : Unit) => [Kd.vis rInt v_which, Kd.vis rInt v_points, Kd.vis (rL rII) v_ties])
(sj_if (ks' := fun (s21 : Unit) => [Kd.vis rInt v_which, Kd.vis rInt v_points, Kd.vis (rL rII) v_ties]) (et_cmp (ev_op o_eqI (ev_var (i := 0)) ev_int))
(sj_post (g := (fun (u22 : Unit) => (() : Unit)))
(sj_expr (EvN.ev (EvR.en (er_2 (ev_var (i := 1)) (ev_var (i := 2)))))) (fun u22 => (KWk.same (KWk.same (KWk.same KWk.nil)))))
(sj_next (KWk.same (KWk.same (KWk.same KWk.nil))))) (fun s21 =>
(sj_seq (ks1 := fun (s23 : Unit) => [Kd.vis rInt v_which, Kd.vis rInt v_points, Kd.vis (rL rII) v_ties])
(sj_if (ks' := fun (s23 : Unit) => [Kd.vis rInt v_which, Kd.vis rInt v_points, Kd.vis (rL rII) v_ties]) (et_cmp (ev_op o_eqI (ev_var (i := 0)) ev_int))
(sj_post (g := (fun (u24 : Unit) => (() : Unit)))
(sj_expr (EvR.ev (er_4 (ev_var (i := 1)) (ev_var (i := 2)) (en_lst (r := rInt) (ea_cons ev_int ea_nil)).ev ev_int))) (fun u24 => (KWk.same (KWk.same (KWk.same KWk.nil)))))
(sj_next (KWk.same (KWk.same (KWk.same KWk.nil))))) (fun s23 =>
(sj_seq (ks1 := fun (s25 : Unit) => [Kd.vis rInt v_which, Kd.vis rInt v_points, Kd.vis (rL rII) v_ties])
(sj_if (ks' := fun (s25 : Unit) => [Kd.vis rInt v_which, Kd.vis rInt v_points, Kd.vis (rL rII) v_ties]) (et_cmp (ev_op o_eqI (ev_var (i := 0)) ev_int))
(sj_post (g := (fun (u26 : Unit) => (() : Unit)))
(sj_expr (EvR.ev (er_2 (ev_var (i := 1)) (ev_var (i := 2))))) (fun u26 => (KWk.same (KWk.same (KWk.same KWk.nil)))))
(sj_next (KWk.same (KWk.same (KWk.same KWk.nil))))) (fun s25 =>
(sj_seq (ks1 := fun (s27 : Unit) => [Kd.vis rInt v_which, Kd.vis rInt v_points, Kd.vis (rL rII) v_ties])
(sj_if (ks' := fun (s27 : Unit) => [Kd.vis rInt v_which, Kd.vis rInt v_points, Kd.vis (rL rII) v_ties]) (et_cmp (ev_op o_eqI (ev_var (i := 0)) ev_int))
(sj_post (g := (fun (u28 : Unit) => (() : Unit)))
(sj_expr (EvR.ev (er_3 (ev_var (i := 1)) (ev_var (i := 2)) ev_int))) (fun u28 => (KWk.same (KWk.same (KWk.same KWk.nil)))))
(sj_next (KWk.same (KWk.same (KWk.same KWk.nil))))) (fun s27 =>
(sj_post (g := (fun (s29 : Unit) => (() : Unit)))
(sj_if (ks' := fun (s29 : Unit) => [Kd.vis rInt v_which, Kd.vis rInt v_points, Kd.vis (rL rII) v_ties]) (et_cmp (ev_op o_eqI (ev_var (i := 0)) ev_int))
(sj_post (g := (fun (u30 : Unit) => (() : Unit)))
(sj_expr (EvR.ev (er_2 (ev_var (i := 1)) (ev_var (i := 2))))) (fun u30 => (KWk.same (KWk.same (KWk.same KWk.nil)))))
(sj_next (KWk.same (KWk.same (KWk.same KWk.nil))))) (fun s29 => (KWk.any (KWk.any (KWk.any KWk.nil))))))))))))))))))))⟩
noncomputable abbrev spx__law_first_eight (K : PySem.W.Frag) (mg : Str → Option Value) : Sp := spx3 rInt rInt (rL rII) x__law_first_eight K mg
theorem fx__law_first_eight (B : Blt K mg) (G_beside : Fn P w K mg base CX0 4 "beside" ["points", "ties", "more", "others"] (sp_beside K)) (G_fewest : Fn P w K mg base CX0 5 "fewest" ["points", "ties"] (sp_fewest K)) (G_is_dyeing : Fn P w K mg base CX0 4 "is_dyeing" ["points", "ties", "dyes", "many"] (sp_is_dyeing K)) (G_least : Fn P w K mg base CX0 4 "least" ["points", "ties", "many"] (sp_least K)) (G_pieces : Fn P w K mg base CX0 4 "pieces" ["points", "ties"] (sp_pieces K)) (G_row : Fn P w K mg base CX0 4 "row" ["points", "ties"] (sp_row K)) (G_shown : Fn P w K mg base CX0 4 "shown" ["points", "ties"] (sp_shown K)) (GB_beside : Fc P w K mg base (CX1 P w) 4 "beside" (spB (sp_beside K) (spx_beside K mg))) (GB_fewest : Fc P w K mg base (CX1 P w) 5 "fewest" (spB (sp_fewest K) (spx_fewest K mg))) (GB_is_dyeing : Fc P w K mg base (CX1 P w) 4 "is_dyeing" (spB (sp_is_dyeing K) (spx_is_dyeing K mg))) (GB_least : Fc P w K mg base (CX1 P w) 4 "least" (spB (sp_least K) (spx_least K mg))) (GB_pieces : Fc P w K mg base (CX1 P w) 4 "pieces" (spB (sp_pieces K) (spx_pieces K mg))) (GB_row : Fc P w K mg base (CX1 P w) 4 "row" (spB (sp_row K) (spx_row K mg))) (GB_shown : Fc P w K mg base (CX1 P w) 4 "shown" (spB (sp_shown K) (spx_shown K mg))) (At__law_first_eight : At K mg "_law_first_eight" s__law_first_eight ["which", "points", "ties"]) : Fn P w K mg base (CX1 P w) 6 "_law_first_eight" ["which", "points", "ties"] (spx__law_first_eight K mg) := by
  refine Fn.of At__law_first_eight fun {f fd} F => F.ok1 sc__law_first_eight (fun vs H Q E h => lenx3 h) (fun cdv A outer s H vs Q E hr h => ?_)
  exact (spx3_el (f := x__law_first_eight_0) (fun h => ⟨_, (pss_cons (ps_if (PT.nox (pt_cmpR op_eq (pv 0) pe_int (nomark _)))
(pss_cons (ps_expr (pe_callC GB_pieces hr rfl pass1S (pa_cons (pv 1) (pa_cons (pv 2) pa_nil)))) pss_never)
pss_never) pss_never), runx3 (N := ["which", "points", "ties"]) h (fun v_which v_points v_ties =>
(sjx_first (sjx_if (et_cmp (ev_op o_eqI (ev_var (i := 0)) ev_int))
(sjx_first (sjx_expr (evx_2 (ev_var (i := 1)) (ev_var (i := 2))) kx_none)) sjx_no)))⟩)
(spx3_el (f := x__law_first_eight_1) (fun h => ⟨_, (pss_cons (PS.nox (ps_if (pt_cmpR op_eq (pv 0) pe_int (nomark _))
(pss_one (ps_expr (pe_callF G_pieces hr rfl pass0 (pa_cons (pv 1) (pa_cons (pv 2) pa_nil)))))
pss_nil))
(pss_cons (ps_if (PT.nox (pt_cmpR op_eq (pv 0) pe_int (nomark _)))
(pss_cons (ps_expr (pe_callC GB_beside hr rfl pass1S (pa_cons (pv 1) (pa_cons (pv 2) (pa_cons pe_int (pa_cons (pe_lst pa_nil) pa_nil)))))) pss_never)
pss_never) pss_never)), runx3 (N := ["which", "points", "ties"]) h (fun v_which v_points v_ties =>
(sjx_seq (rr := (rtV rUnit)) (ks1 := fun (s31 : Unit) => [Kd.vis rInt v_which, Kd.vis rInt v_points, Kd.vis (rL rII) v_ties])
(sj_if (ks' := fun (s31 : Unit) => [Kd.vis rInt v_which, Kd.vis rInt v_points, Kd.vis (rL rII) v_ties]) (et_cmp (ev_op o_eqI (ev_var (i := 0)) ev_int))
(sj_post (g := (fun (u32 : Unit) => (() : Unit)))
(sj_expr (EvN.ev (EvR.en (er_2 (ev_var (i := 1)) (ev_var (i := 2)))))) (fun u32 => (KWk.same (KWk.same (KWk.same KWk.nil)))))
(sj_next (KWk.same (KWk.same (KWk.same KWk.nil))))) (fun s31 =>
(sjx_first (sjx_if (et_cmp (ev_op o_eqI (ev_var (i := 0)) ev_int))
(sjx_first (sjx_expr (evx_4 (ev_var (i := 1)) (ev_var (i := 2)) ev_int (en_lst (r := rII) ea_nil).ev) kx_none)) sjx_no)))))⟩)
(spx3_el (f := x__law_first_eight_2) (fun h => ⟨_, (pss_cons (PS.nox (ps_if (pt_cmpR op_eq (pv 0) pe_int (nomark _))
(pss_one (ps_expr (pe_callF G_pieces hr rfl pass0 (pa_cons (pv 1) (pa_cons (pv 2) pa_nil)))))
pss_nil))
(pss_cons (PS.nox (ps_if (pt_cmpR op_eq (pv 0) pe_int (nomark _))
(pss_one (ps_expr (pe_callF G_beside hr rfl pass0 (pa_cons (pv 1) (pa_cons (pv 2) (pa_cons pe_int (pa_cons (pe_lst pa_nil) pa_nil)))))))
pss_nil))
(pss_cons (ps_if (PT.nox (pt_cmpR op_eq (pv 0) pe_int (nomark _)))
(pss_cons (ps_expr (pe_callC GB_beside hr rfl pass1S (pa_cons pe_int (pa_cons (pe_lst pa_nil) (pa_cons (pv 1) (pa_cons (pv 2) pa_nil)))))) pss_never)
pss_never) pss_never))), runx3 (N := ["which", "points", "ties"]) h (fun v_which v_points v_ties =>
(sjx_seq (rr := (rtV rUnit)) (ks1 := fun (s31 : Unit) => [Kd.vis rInt v_which, Kd.vis rInt v_points, Kd.vis (rL rII) v_ties])
(sj_if (ks' := fun (s31 : Unit) => [Kd.vis rInt v_which, Kd.vis rInt v_points, Kd.vis (rL rII) v_ties]) (et_cmp (ev_op o_eqI (ev_var (i := 0)) ev_int))
(sj_post (g := (fun (u32 : Unit) => (() : Unit)))
(sj_expr (EvN.ev (EvR.en (er_2 (ev_var (i := 1)) (ev_var (i := 2)))))) (fun u32 => (KWk.same (KWk.same (KWk.same KWk.nil)))))
(sj_next (KWk.same (KWk.same (KWk.same KWk.nil))))) (fun s31 =>
(sjx_seq (rr := (rtV rUnit)) (ks1 := fun (s33 : Unit) => [Kd.vis rInt v_which, Kd.vis rInt v_points, Kd.vis (rL rII) v_ties])
(sj_if (ks' := fun (s33 : Unit) => [Kd.vis rInt v_which, Kd.vis rInt v_points, Kd.vis (rL rII) v_ties]) (et_cmp (ev_op o_eqI (ev_var (i := 0)) ev_int))
(sj_post (g := (fun (u34 : Unit) => (() : Unit)))
(sj_expr (EvN.ev (EvR.en (er_4 (ev_var (i := 1)) (ev_var (i := 2)) ev_int (en_lst (r := rII) ea_nil).ev)))) (fun u34 => (KWk.same (KWk.same (KWk.same KWk.nil)))))
(sj_next (KWk.same (KWk.same (KWk.same KWk.nil))))) (fun s33 =>
(sjx_first (sjx_if (et_cmp (ev_op o_eqI (ev_var (i := 0)) ev_int))
(sjx_first (sjx_expr (evx_4 ev_int (en_lst (r := rII) ea_nil).ev (ev_var (i := 1)) (ev_var (i := 2))) kx_none)) sjx_no)))))))⟩)
(spx3_el (f := x__law_first_eight_3) (fun h => ⟨_, (pss_cons (PS.nox (ps_if (pt_cmpR op_eq (pv 0) pe_int (nomark _))
(pss_one (ps_expr (pe_callF G_pieces hr rfl pass0 (pa_cons (pv 1) (pa_cons (pv 2) pa_nil)))))
pss_nil))
(pss_cons (PS.nox (ps_if (pt_cmpR op_eq (pv 0) pe_int (nomark _))
(pss_one (ps_expr (pe_callF G_beside hr rfl pass0 (pa_cons (pv 1) (pa_cons (pv 2) (pa_cons pe_int (pa_cons (pe_lst pa_nil) pa_nil)))))))
pss_nil))
(pss_cons (PS.nox (ps_if (pt_cmpR op_eq (pv 0) pe_int (nomark _))
(pss_one (ps_expr (pe_callF G_beside hr rfl pass0 (pa_cons pe_int (pa_cons (pe_lst pa_nil) (pa_cons (pv 1) (pa_cons (pv 2) pa_nil)))))))
pss_nil))
(pss_cons (ps_if (PT.nox (pt_cmpR op_eq (pv 0) pe_int (nomark _)))
(pss_cons (ps_expr (pe_callC GB_row hr rfl pass1S (pa_cons (pv 1) (pa_cons (pv 2) pa_nil)))) pss_never)
pss_never) pss_never)))), runx3 (N := ["which", "points", "ties"]) h (fun v_which v_points v_ties =>
(sjx_seq (rr := (rtV rUnit)) (ks1 := fun (s31 : Unit) => [Kd.vis rInt v_which, Kd.vis rInt v_points, Kd.vis (rL rII) v_ties])
(sj_if (ks' := fun (s31 : Unit) => [Kd.vis rInt v_which, Kd.vis rInt v_points, Kd.vis (rL rII) v_ties]) (et_cmp (ev_op o_eqI (ev_var (i := 0)) ev_int))
(sj_post (g := (fun (u32 : Unit) => (() : Unit)))
(sj_expr (EvN.ev (EvR.en (er_2 (ev_var (i := 1)) (ev_var (i := 2)))))) (fun u32 => (KWk.same (KWk.same (KWk.same KWk.nil)))))
(sj_next (KWk.same (KWk.same (KWk.same KWk.nil))))) (fun s31 =>
(sjx_seq (rr := (rtV rUnit)) (ks1 := fun (s33 : Unit) => [Kd.vis rInt v_which, Kd.vis rInt v_points, Kd.vis (rL rII) v_ties])
(sj_if (ks' := fun (s33 : Unit) => [Kd.vis rInt v_which, Kd.vis rInt v_points, Kd.vis (rL rII) v_ties]) (et_cmp (ev_op o_eqI (ev_var (i := 0)) ev_int))
(sj_post (g := (fun (u34 : Unit) => (() : Unit)))
(sj_expr (EvN.ev (EvR.en (er_4 (ev_var (i := 1)) (ev_var (i := 2)) ev_int (en_lst (r := rII) ea_nil).ev)))) (fun u34 => (KWk.same (KWk.same (KWk.same KWk.nil)))))
(sj_next (KWk.same (KWk.same (KWk.same KWk.nil))))) (fun s33 =>
(sjx_seq (rr := (rtV rUnit)) (ks1 := fun (s35 : Unit) => [Kd.vis rInt v_which, Kd.vis rInt v_points, Kd.vis (rL rII) v_ties])
(sj_if (ks' := fun (s35 : Unit) => [Kd.vis rInt v_which, Kd.vis rInt v_points, Kd.vis (rL rII) v_ties]) (et_cmp (ev_op o_eqI (ev_var (i := 0)) ev_int))
(sj_post (g := (fun (u36 : Unit) => (() : Unit)))
(sj_expr (EvN.ev (EvR.en (er_4 ev_int (en_lst (r := rII) ea_nil).ev (ev_var (i := 1)) (ev_var (i := 2)))))) (fun u36 => (KWk.same (KWk.same (KWk.same KWk.nil)))))
(sj_next (KWk.same (KWk.same (KWk.same KWk.nil))))) (fun s35 =>
(sjx_first (sjx_if (et_cmp (ev_op o_eqI (ev_var (i := 0)) ev_int))
(sjx_first (sjx_expr (evx_2 (ev_var (i := 1)) (ev_var (i := 2))) kx_none)) sjx_no)))))))))⟩)
(spx3_el (f := x__law_first_eight_4) (fun h => ⟨_, (pss_cons (PS.nox (ps_if (pt_cmpR op_eq (pv 0) pe_int (nomark _))
(pss_one (ps_expr (pe_callF G_pieces hr rfl pass0 (pa_cons (pv 1) (pa_cons (pv 2) pa_nil)))))
pss_nil))
(pss_cons (PS.nox (ps_if (pt_cmpR op_eq (pv 0) pe_int (nomark _))
(pss_one (ps_expr (pe_callF G_beside hr rfl pass0 (pa_cons (pv 1) (pa_cons (pv 2) (pa_cons pe_int (pa_cons (pe_lst pa_nil) pa_nil)))))))
pss_nil))
(pss_cons (PS.nox (ps_if (pt_cmpR op_eq (pv 0) pe_int (nomark _))
(pss_one (ps_expr (pe_callF G_beside hr rfl pass0 (pa_cons pe_int (pa_cons (pe_lst pa_nil) (pa_cons (pv 1) (pa_cons (pv 2) pa_nil)))))))
pss_nil))
(pss_cons (PS.nox (ps_if (pt_cmpR op_eq (pv 0) pe_int (nomark _))
(pss_one (ps_expr (pe_callF G_row hr rfl pass0 (pa_cons (pv 1) (pa_cons (pv 2) pa_nil)))))
pss_nil))
(pss_cons (ps_if (PT.nox (pt_cmpR op_eq (pv 0) pe_int (nomark _)))
(pss_cons (ps_expr (pe_callC GB_is_dyeing hr rfl pass1S (pa_cons (pv 1) (pa_cons (pv 2) (pa_cons (pe_lst (pa_cons pe_int pa_nil)) (pa_cons pe_int pa_nil)))))) pss_never)
pss_never) pss_never))))), runx3 (N := ["which", "points", "ties"]) h (fun v_which v_points v_ties =>
(sjx_seq (rr := (rtV rUnit)) (ks1 := fun (s31 : Unit) => [Kd.vis rInt v_which, Kd.vis rInt v_points, Kd.vis (rL rII) v_ties])
(sj_if (ks' := fun (s31 : Unit) => [Kd.vis rInt v_which, Kd.vis rInt v_points, Kd.vis (rL rII) v_ties]) (et_cmp (ev_op o_eqI (ev_var (i := 0)) ev_int))
(sj_post (g := (fun (u32 : Unit) => (() : Unit)))
(sj_expr (EvN.ev (EvR.en (er_2 (ev_var (i := 1)) (ev_var (i := 2)))))) (fun u32 => (KWk.same (KWk.same (KWk.same KWk.nil)))))
(sj_next (KWk.same (KWk.same (KWk.same KWk.nil))))) (fun s31 =>
(sjx_seq (rr := (rtV rUnit)) (ks1 := fun (s33 : Unit) => [Kd.vis rInt v_which, Kd.vis rInt v_points, Kd.vis (rL rII) v_ties])
(sj_if (ks' := fun (s33 : Unit) => [Kd.vis rInt v_which, Kd.vis rInt v_points, Kd.vis (rL rII) v_ties]) (et_cmp (ev_op o_eqI (ev_var (i := 0)) ev_int))
(sj_post (g := (fun (u34 : Unit) => (() : Unit)))
(sj_expr (EvN.ev (EvR.en (er_4 (ev_var (i := 1)) (ev_var (i := 2)) ev_int (en_lst (r := rII) ea_nil).ev)))) (fun u34 => (KWk.same (KWk.same (KWk.same KWk.nil)))))
(sj_next (KWk.same (KWk.same (KWk.same KWk.nil))))) (fun s33 =>
(sjx_seq (rr := (rtV rUnit)) (ks1 := fun (s35 : Unit) => [Kd.vis rInt v_which, Kd.vis rInt v_points, Kd.vis (rL rII) v_ties])
(sj_if (ks' := fun (s35 : Unit) => [Kd.vis rInt v_which, Kd.vis rInt v_points, Kd.vis (rL rII) v_ties]) (et_cmp (ev_op o_eqI (ev_var (i := 0)) ev_int))
(sj_post (g := (fun (u36 : Unit) => (() : Unit)))
(sj_expr (EvN.ev (EvR.en (er_4 ev_int (en_lst (r := rII) ea_nil).ev (ev_var (i := 1)) (ev_var (i := 2)))))) (fun u36 => (KWk.same (KWk.same (KWk.same KWk.nil)))))
(sj_next (KWk.same (KWk.same (KWk.same KWk.nil))))) (fun s35 =>
(sjx_seq (rr := (rtV rUnit)) (ks1 := fun (s37 : Unit) => [Kd.vis rInt v_which, Kd.vis rInt v_points, Kd.vis (rL rII) v_ties])
(sj_if (ks' := fun (s37 : Unit) => [Kd.vis rInt v_which, Kd.vis rInt v_points, Kd.vis (rL rII) v_ties]) (et_cmp (ev_op o_eqI (ev_var (i := 0)) ev_int))
(sj_post (g := (fun (u38 : Unit) => (() : Unit)))
(sj_expr (EvN.ev (EvR.en (er_2 (ev_var (i := 1)) (ev_var (i := 2)))))) (fun u38 => (KWk.same (KWk.same (KWk.same KWk.nil)))))
(sj_next (KWk.same (KWk.same (KWk.same KWk.nil))))) (fun s37 =>
(sjx_first (sjx_if (et_cmp (ev_op o_eqI (ev_var (i := 0)) ev_int))
(sjx_first (sjx_expr (evx_4 (ev_var (i := 1)) (ev_var (i := 2)) (en_lst (r := rInt) (ea_cons ev_int ea_nil)).ev ev_int) kx_none)) sjx_no)))))))))))⟩)
(spx3_el (f := x__law_first_eight_5) (fun h => ⟨_, (pss_cons (PS.nox (ps_if (pt_cmpR op_eq (pv 0) pe_int (nomark _))
(pss_one (ps_expr (pe_callF G_pieces hr rfl pass0 (pa_cons (pv 1) (pa_cons (pv 2) pa_nil)))))
pss_nil))
(pss_cons (PS.nox (ps_if (pt_cmpR op_eq (pv 0) pe_int (nomark _))
(pss_one (ps_expr (pe_callF G_beside hr rfl pass0 (pa_cons (pv 1) (pa_cons (pv 2) (pa_cons pe_int (pa_cons (pe_lst pa_nil) pa_nil)))))))
pss_nil))
(pss_cons (PS.nox (ps_if (pt_cmpR op_eq (pv 0) pe_int (nomark _))
(pss_one (ps_expr (pe_callF G_beside hr rfl pass0 (pa_cons pe_int (pa_cons (pe_lst pa_nil) (pa_cons (pv 1) (pa_cons (pv 2) pa_nil)))))))
pss_nil))
(pss_cons (PS.nox (ps_if (pt_cmpR op_eq (pv 0) pe_int (nomark _))
(pss_one (ps_expr (pe_callF G_row hr rfl pass0 (pa_cons (pv 1) (pa_cons (pv 2) pa_nil)))))
pss_nil))
(pss_cons (PS.nox (ps_if (pt_cmpR op_eq (pv 0) pe_int (nomark _))
(pss_one (ps_expr (pe_callF G_is_dyeing hr rfl pass0 (pa_cons (pv 1) (pa_cons (pv 2) (pa_cons (pe_lst (pa_cons pe_int pa_nil)) (pa_cons pe_int pa_nil)))))))
pss_nil))
(pss_cons (ps_if (PT.nox (pt_cmpR op_eq (pv 0) pe_int (nomark _)))
(pss_cons (ps_expr (pe_callC GB_fewest hr rfl pass1S (pa_cons (pv 1) (pa_cons (pv 2) pa_nil)))) pss_never)
pss_never) pss_never)))))), runx3 (N := ["which", "points", "ties"]) h (fun v_which v_points v_ties =>
(sjx_seq (rr := (rtV rUnit)) (ks1 := fun (s31 : Unit) => [Kd.vis rInt v_which, Kd.vis rInt v_points, Kd.vis (rL rII) v_ties])
(sj_if (ks' := fun (s31 : Unit) => [Kd.vis rInt v_which, Kd.vis rInt v_points, Kd.vis (rL rII) v_ties]) (et_cmp (ev_op o_eqI (ev_var (i := 0)) ev_int))
(sj_post (g := (fun (u32 : Unit) => (() : Unit)))
(sj_expr (EvN.ev (EvR.en (er_2 (ev_var (i := 1)) (ev_var (i := 2)))))) (fun u32 => (KWk.same (KWk.same (KWk.same KWk.nil)))))
(sj_next (KWk.same (KWk.same (KWk.same KWk.nil))))) (fun s31 =>
(sjx_seq (rr := (rtV rUnit)) (ks1 := fun (s33 : Unit) => [Kd.vis rInt v_which, Kd.vis rInt v_points, Kd.vis (rL rII) v_ties])
(sj_if (ks' := fun (s33 : Unit) => [Kd.vis rInt v_which, Kd.vis rInt v_points, Kd.vis (rL rII) v_ties]) (et_cmp (ev_op o_eqI (ev_var (i := 0)) ev_int))
(sj_post (g := (fun (u34 : Unit) => (() : Unit)))
(sj_expr (EvN.ev (EvR.en (er_4 (ev_var (i := 1)) (ev_var (i := 2)) ev_int (en_lst (r := rII) ea_nil).ev)))) (fun u34 => (KWk.same (KWk.same (KWk.same KWk.nil)))))
(sj_next (KWk.same (KWk.same (KWk.same KWk.nil))))) (fun s33 =>
(sjx_seq (rr := (rtV rUnit)) (ks1 := fun (s35 : Unit) => [Kd.vis rInt v_which, Kd.vis rInt v_points, Kd.vis (rL rII) v_ties])
(sj_if (ks' := fun (s35 : Unit) => [Kd.vis rInt v_which, Kd.vis rInt v_points, Kd.vis (rL rII) v_ties]) (et_cmp (ev_op o_eqI (ev_var (i := 0)) ev_int))
(sj_post (g := (fun (u36 : Unit) => (() : Unit)))
(sj_expr (EvN.ev (EvR.en (er_4 ev_int (en_lst (r := rII) ea_nil).ev (ev_var (i := 1)) (ev_var (i := 2)))))) (fun u36 => (KWk.same (KWk.same (KWk.same KWk.nil)))))
(sj_next (KWk.same (KWk.same (KWk.same KWk.nil))))) (fun s35 =>
(sjx_seq (rr := (rtV rUnit)) (ks1 := fun (s37 : Unit) => [Kd.vis rInt v_which, Kd.vis rInt v_points, Kd.vis (rL rII) v_ties])
(sj_if (ks' := fun (s37 : Unit) => [Kd.vis rInt v_which, Kd.vis rInt v_points, Kd.vis (rL rII) v_ties]) (et_cmp (ev_op o_eqI (ev_var (i := 0)) ev_int))
(sj_post (g := (fun (u38 : Unit) => (() : Unit)))
(sj_expr (EvN.ev (EvR.en (er_2 (ev_var (i := 1)) (ev_var (i := 2)))))) (fun u38 => (KWk.same (KWk.same (KWk.same KWk.nil)))))
(sj_next (KWk.same (KWk.same (KWk.same KWk.nil))))) (fun s37 =>
(sjx_seq (rr := (rtV rUnit)) (ks1 := fun (s39 : Unit) => [Kd.vis rInt v_which, Kd.vis rInt v_points, Kd.vis (rL rII) v_ties])
(sj_if (ks' := fun (s39 : Unit) => [Kd.vis rInt v_which, Kd.vis rInt v_points, Kd.vis (rL rII) v_ties]) (et_cmp (ev_op o_eqI (ev_var (i := 0)) ev_int))
(sj_post (g := (fun (u40 : Unit) => (() : Unit)))
(sj_expr (EvR.ev (er_4 (ev_var (i := 1)) (ev_var (i := 2)) (en_lst (r := rInt) (ea_cons ev_int ea_nil)).ev ev_int))) (fun u40 => (KWk.same (KWk.same (KWk.same KWk.nil)))))
(sj_next (KWk.same (KWk.same (KWk.same KWk.nil))))) (fun s39 =>
(sjx_first (sjx_if (et_cmp (ev_op o_eqI (ev_var (i := 0)) ev_int))
(sjx_first (sjx_expr (evx_2 (ev_var (i := 1)) (ev_var (i := 2))) kx_none)) sjx_no)))))))))))))⟩)
(spx3_el (f := x__law_first_eight_6) (g := x__law_first_eight_7) (fun h => ⟨_, (pss_cons (PS.nox (ps_if (pt_cmpR op_eq (pv 0) pe_int (nomark _))
(pss_one (ps_expr (pe_callF G_pieces hr rfl pass0 (pa_cons (pv 1) (pa_cons (pv 2) pa_nil)))))
pss_nil))
(pss_cons (PS.nox (ps_if (pt_cmpR op_eq (pv 0) pe_int (nomark _))
(pss_one (ps_expr (pe_callF G_beside hr rfl pass0 (pa_cons (pv 1) (pa_cons (pv 2) (pa_cons pe_int (pa_cons (pe_lst pa_nil) pa_nil)))))))
pss_nil))
(pss_cons (PS.nox (ps_if (pt_cmpR op_eq (pv 0) pe_int (nomark _))
(pss_one (ps_expr (pe_callF G_beside hr rfl pass0 (pa_cons pe_int (pa_cons (pe_lst pa_nil) (pa_cons (pv 1) (pa_cons (pv 2) pa_nil)))))))
pss_nil))
(pss_cons (PS.nox (ps_if (pt_cmpR op_eq (pv 0) pe_int (nomark _))
(pss_one (ps_expr (pe_callF G_row hr rfl pass0 (pa_cons (pv 1) (pa_cons (pv 2) pa_nil)))))
pss_nil))
(pss_cons (PS.nox (ps_if (pt_cmpR op_eq (pv 0) pe_int (nomark _))
(pss_one (ps_expr (pe_callF G_is_dyeing hr rfl pass0 (pa_cons (pv 1) (pa_cons (pv 2) (pa_cons (pe_lst (pa_cons pe_int pa_nil)) (pa_cons pe_int pa_nil)))))))
pss_nil))
(pss_cons (PS.nox (ps_if (pt_cmpR op_eq (pv 0) pe_int (nomark _))
(pss_one (ps_expr (pe_callF G_fewest hr rfl pass0 (pa_cons (pv 1) (pa_cons (pv 2) pa_nil)))))
pss_nil))
(pss_cons (ps_if (PT.nox (pt_cmpR op_eq (pv 0) pe_int (nomark _)))
(pss_cons (ps_expr (pe_callC GB_least hr rfl pass1S (pa_cons (pv 1) (pa_cons (pv 2) (pa_cons pe_int pa_nil))))) pss_never)
pss_never) pss_never))))))), runx3 (N := ["which", "points", "ties"]) h (fun v_which v_points v_ties =>
(sjx_seq (rr := (rtV rUnit)) (ks1 := fun (s31 : Unit) => [Kd.vis rInt v_which, Kd.vis rInt v_points, Kd.vis (rL rII) v_ties])
(sj_if (ks' := fun (s31 : Unit) => [Kd.vis rInt v_which, Kd.vis rInt v_points, Kd.vis (rL rII) v_ties]) (et_cmp (ev_op o_eqI (ev_var (i := 0)) ev_int))
(sj_post (g := (fun (u32 : Unit) => (() : Unit)))
(sj_expr (EvN.ev (EvR.en (er_2 (ev_var (i := 1)) (ev_var (i := 2)))))) (fun u32 => (KWk.same (KWk.same (KWk.same KWk.nil)))))
(sj_next (KWk.same (KWk.same (KWk.same KWk.nil))))) (fun s31 =>
(sjx_seq (rr := (rtV rUnit)) (ks1 := fun (s33 : Unit) => [Kd.vis rInt v_which, Kd.vis rInt v_points, Kd.vis (rL rII) v_ties])
(sj_if (ks' := fun (s33 : Unit) => [Kd.vis rInt v_which, Kd.vis rInt v_points, Kd.vis (rL rII) v_ties]) (et_cmp (ev_op o_eqI (ev_var (i := 0)) ev_int))
(sj_post (g := (fun (u34 : Unit) => (() : Unit)))
(sj_expr (EvN.ev (EvR.en (er_4 (ev_var (i := 1)) (ev_var (i := 2)) ev_int (en_lst (r := rII) ea_nil).ev)))) (fun u34 => (KWk.same (KWk.same (KWk.same KWk.nil)))))
(sj_next (KWk.same (KWk.same (KWk.same KWk.nil))))) (fun s33 =>
(sjx_seq (rr := (rtV rUnit)) (ks1 := fun (s35 : Unit) => [Kd.vis rInt v_which, Kd.vis rInt v_points, Kd.vis (rL rII) v_ties])
(sj_if (ks' := fun (s35 : Unit) => [Kd.vis rInt v_which, Kd.vis rInt v_points, Kd.vis (rL rII) v_ties]) (et_cmp (ev_op o_eqI (ev_var (i := 0)) ev_int))
(sj_post (g := (fun (u36 : Unit) => (() : Unit)))
(sj_expr (EvN.ev (EvR.en (er_4 ev_int (en_lst (r := rII) ea_nil).ev (ev_var (i := 1)) (ev_var (i := 2)))))) (fun u36 => (KWk.same (KWk.same (KWk.same KWk.nil)))))
(sj_next (KWk.same (KWk.same (KWk.same KWk.nil))))) (fun s35 =>
(sjx_seq (rr := (rtV rUnit)) (ks1 := fun (s37 : Unit) => [Kd.vis rInt v_which, Kd.vis rInt v_points, Kd.vis (rL rII) v_ties])
(sj_if (ks' := fun (s37 : Unit) => [Kd.vis rInt v_which, Kd.vis rInt v_points, Kd.vis (rL rII) v_ties]) (et_cmp (ev_op o_eqI (ev_var (i := 0)) ev_int))
(sj_post (g := (fun (u38 : Unit) => (() : Unit)))
(sj_expr (EvN.ev (EvR.en (er_2 (ev_var (i := 1)) (ev_var (i := 2)))))) (fun u38 => (KWk.same (KWk.same (KWk.same KWk.nil)))))
(sj_next (KWk.same (KWk.same (KWk.same KWk.nil))))) (fun s37 =>
(sjx_seq (rr := (rtV rUnit)) (ks1 := fun (s39 : Unit) => [Kd.vis rInt v_which, Kd.vis rInt v_points, Kd.vis (rL rII) v_ties])
(sj_if (ks' := fun (s39 : Unit) => [Kd.vis rInt v_which, Kd.vis rInt v_points, Kd.vis (rL rII) v_ties]) (et_cmp (ev_op o_eqI (ev_var (i := 0)) ev_int))
(sj_post (g := (fun (u40 : Unit) => (() : Unit)))
(sj_expr (EvR.ev (er_4 (ev_var (i := 1)) (ev_var (i := 2)) (en_lst (r := rInt) (ea_cons ev_int ea_nil)).ev ev_int))) (fun u40 => (KWk.same (KWk.same (KWk.same KWk.nil)))))
(sj_next (KWk.same (KWk.same (KWk.same KWk.nil))))) (fun s39 =>
(sjx_seq (rr := (rtV rUnit)) (ks1 := fun (s41 : Unit) => [Kd.vis rInt v_which, Kd.vis rInt v_points, Kd.vis (rL rII) v_ties])
(sj_if (ks' := fun (s41 : Unit) => [Kd.vis rInt v_which, Kd.vis rInt v_points, Kd.vis (rL rII) v_ties]) (et_cmp (ev_op o_eqI (ev_var (i := 0)) ev_int))
(sj_post (g := (fun (u42 : Unit) => (() : Unit)))
(sj_expr (EvR.ev (er_2 (ev_var (i := 1)) (ev_var (i := 2))))) (fun u42 => (KWk.same (KWk.same (KWk.same KWk.nil)))))
(sj_next (KWk.same (KWk.same (KWk.same KWk.nil))))) (fun s41 =>
(sjx_first (sjx_if (et_cmp (ev_op o_eqI (ev_var (i := 0)) ev_int))
(sjx_first (sjx_expr (evx_3 (ev_var (i := 1)) (ev_var (i := 2)) ev_int) kx_none)) sjx_no)))))))))))))))⟩)
(fun h => ⟨_, (pss_cons (PS.nox (ps_if (pt_cmpR op_eq (pv 0) pe_int (nomark _))
(pss_one (ps_expr (pe_callF G_pieces hr rfl pass0 (pa_cons (pv 1) (pa_cons (pv 2) pa_nil)))))
pss_nil))
(pss_cons (PS.nox (ps_if (pt_cmpR op_eq (pv 0) pe_int (nomark _))
(pss_one (ps_expr (pe_callF G_beside hr rfl pass0 (pa_cons (pv 1) (pa_cons (pv 2) (pa_cons pe_int (pa_cons (pe_lst pa_nil) pa_nil)))))))
pss_nil))
(pss_cons (PS.nox (ps_if (pt_cmpR op_eq (pv 0) pe_int (nomark _))
(pss_one (ps_expr (pe_callF G_beside hr rfl pass0 (pa_cons pe_int (pa_cons (pe_lst pa_nil) (pa_cons (pv 1) (pa_cons (pv 2) pa_nil)))))))
pss_nil))
(pss_cons (PS.nox (ps_if (pt_cmpR op_eq (pv 0) pe_int (nomark _))
(pss_one (ps_expr (pe_callF G_row hr rfl pass0 (pa_cons (pv 1) (pa_cons (pv 2) pa_nil)))))
pss_nil))
(pss_cons (PS.nox (ps_if (pt_cmpR op_eq (pv 0) pe_int (nomark _))
(pss_one (ps_expr (pe_callF G_is_dyeing hr rfl pass0 (pa_cons (pv 1) (pa_cons (pv 2) (pa_cons (pe_lst (pa_cons pe_int pa_nil)) (pa_cons pe_int pa_nil)))))))
pss_nil))
(pss_cons (PS.nox (ps_if (pt_cmpR op_eq (pv 0) pe_int (nomark _))
(pss_one (ps_expr (pe_callF G_fewest hr rfl pass0 (pa_cons (pv 1) (pa_cons (pv 2) pa_nil)))))
pss_nil))
(pss_cons (PS.nox (ps_if (pt_cmpR op_eq (pv 0) pe_int (nomark _))
(pss_one (ps_expr (pe_callF G_least hr rfl pass0 (pa_cons (pv 1) (pa_cons (pv 2) (pa_cons pe_int pa_nil))))))
pss_nil))
(pss_cons (ps_if (PT.nox (pt_cmpR op_eq (pv 0) pe_int (nomark _)))
(pss_cons (ps_expr (pe_callC GB_shown hr rfl pass1S (pa_cons (pv 1) (pa_cons (pv 2) pa_nil)))) pss_never)
pss_never) pss_never)))))))), runx3 (N := ["which", "points", "ties"]) h (fun v_which v_points v_ties =>
(sjx_seq (rr := (rtV rUnit)) (ks1 := fun (s31 : Unit) => [Kd.vis rInt v_which, Kd.vis rInt v_points, Kd.vis (rL rII) v_ties])
(sj_if (ks' := fun (s31 : Unit) => [Kd.vis rInt v_which, Kd.vis rInt v_points, Kd.vis (rL rII) v_ties]) (et_cmp (ev_op o_eqI (ev_var (i := 0)) ev_int))
(sj_post (g := (fun (u32 : Unit) => (() : Unit)))
(sj_expr (EvN.ev (EvR.en (er_2 (ev_var (i := 1)) (ev_var (i := 2)))))) (fun u32 => (KWk.same (KWk.same (KWk.same KWk.nil)))))
(sj_next (KWk.same (KWk.same (KWk.same KWk.nil))))) (fun s31 =>
(sjx_seq (rr := (rtV rUnit)) (ks1 := fun (s33 : Unit) => [Kd.vis rInt v_which, Kd.vis rInt v_points, Kd.vis (rL rII) v_ties])
(sj_if (ks' := fun (s33 : Unit) => [Kd.vis rInt v_which, Kd.vis rInt v_points, Kd.vis (rL rII) v_ties]) (et_cmp (ev_op o_eqI (ev_var (i := 0)) ev_int))
(sj_post (g := (fun (u34 : Unit) => (() : Unit)))
(sj_expr (EvN.ev (EvR.en (er_4 (ev_var (i := 1)) (ev_var (i := 2)) ev_int (en_lst (r := rII) ea_nil).ev)))) (fun u34 => (KWk.same (KWk.same (KWk.same KWk.nil)))))
(sj_next (KWk.same (KWk.same (KWk.same KWk.nil))))) (fun s33 =>
(sjx_seq (rr := (rtV rUnit)) (ks1 := fun (s35 : Unit) => [Kd.vis rInt v_which, Kd.vis rInt v_points, Kd.vis (rL rII) v_ties])
(sj_if (ks' := fun (s35 : Unit) => [Kd.vis rInt v_which, Kd.vis rInt v_points, Kd.vis (rL rII) v_ties]) (et_cmp (ev_op o_eqI (ev_var (i := 0)) ev_int))
(sj_post (g := (fun (u36 : Unit) => (() : Unit)))
(sj_expr (EvN.ev (EvR.en (er_4 ev_int (en_lst (r := rII) ea_nil).ev (ev_var (i := 1)) (ev_var (i := 2)))))) (fun u36 => (KWk.same (KWk.same (KWk.same KWk.nil)))))
(sj_next (KWk.same (KWk.same (KWk.same KWk.nil))))) (fun s35 =>
(sjx_seq (rr := (rtV rUnit)) (ks1 := fun (s37 : Unit) => [Kd.vis rInt v_which, Kd.vis rInt v_points, Kd.vis (rL rII) v_ties])
(sj_if (ks' := fun (s37 : Unit) => [Kd.vis rInt v_which, Kd.vis rInt v_points, Kd.vis (rL rII) v_ties]) (et_cmp (ev_op o_eqI (ev_var (i := 0)) ev_int))
(sj_post (g := (fun (u38 : Unit) => (() : Unit)))
(sj_expr (EvN.ev (EvR.en (er_2 (ev_var (i := 1)) (ev_var (i := 2)))))) (fun u38 => (KWk.same (KWk.same (KWk.same KWk.nil)))))
(sj_next (KWk.same (KWk.same (KWk.same KWk.nil))))) (fun s37 =>
(sjx_seq (rr := (rtV rUnit)) (ks1 := fun (s39 : Unit) => [Kd.vis rInt v_which, Kd.vis rInt v_points, Kd.vis (rL rII) v_ties])
(sj_if (ks' := fun (s39 : Unit) => [Kd.vis rInt v_which, Kd.vis rInt v_points, Kd.vis (rL rII) v_ties]) (et_cmp (ev_op o_eqI (ev_var (i := 0)) ev_int))
(sj_post (g := (fun (u40 : Unit) => (() : Unit)))
(sj_expr (EvR.ev (er_4 (ev_var (i := 1)) (ev_var (i := 2)) (en_lst (r := rInt) (ea_cons ev_int ea_nil)).ev ev_int))) (fun u40 => (KWk.same (KWk.same (KWk.same KWk.nil)))))
(sj_next (KWk.same (KWk.same (KWk.same KWk.nil))))) (fun s39 =>
(sjx_seq (rr := (rtV rUnit)) (ks1 := fun (s41 : Unit) => [Kd.vis rInt v_which, Kd.vis rInt v_points, Kd.vis (rL rII) v_ties])
(sj_if (ks' := fun (s41 : Unit) => [Kd.vis rInt v_which, Kd.vis rInt v_points, Kd.vis (rL rII) v_ties]) (et_cmp (ev_op o_eqI (ev_var (i := 0)) ev_int))
(sj_post (g := (fun (u42 : Unit) => (() : Unit)))
(sj_expr (EvR.ev (er_2 (ev_var (i := 1)) (ev_var (i := 2))))) (fun u42 => (KWk.same (KWk.same (KWk.same KWk.nil)))))
(sj_next (KWk.same (KWk.same (KWk.same KWk.nil))))) (fun s41 =>
(sjx_seq (rr := (rtV rUnit)) (ks1 := fun (s43 : Unit) => [Kd.vis rInt v_which, Kd.vis rInt v_points, Kd.vis (rL rII) v_ties])
(sj_if (ks' := fun (s43 : Unit) => [Kd.vis rInt v_which, Kd.vis rInt v_points, Kd.vis (rL rII) v_ties]) (et_cmp (ev_op o_eqI (ev_var (i := 0)) ev_int))
(sj_post (g := (fun (u44 : Unit) => (() : Unit)))
(sj_expr (EvR.ev (er_3 (ev_var (i := 1)) (ev_var (i := 2)) ev_int))) (fun u44 => (KWk.same (KWk.same (KWk.same KWk.nil)))))
(sj_next (KWk.same (KWk.same (KWk.same KWk.nil))))) (fun s43 =>
(sjx_first (sjx_if (et_cmp (ev_op o_eqI (ev_var (i := 0)) ev_int))
(sjx_first (sjx_expr (evx_2 (ev_var (i := 1)) (ev_var (i := 2))) kx_none)) sjx_no)))))))))))))))))⟩)))))))) h

noncomputable abbrev sp__law_others (K : PySem.W.Frag) : Sp := sp4 rInt rInt (rL rII) (rL rInt) (rtV rUnit) m__law_others K
theorem fn__law_others (B : Blt K mg) (G_cut : Fn P w K mg base CX0 4 "cut" ["points", "ties", "tie"] (sp_cut K)) (G_flattest : Fn P w K mg base CX0 6 "flattest" ["points", "ties"] (sp_flattest K)) (G_from_spring : Fn P w K mg base CX0 5 "from_spring" ["points", "ties", "point"] (sp_from_spring K)) (G_goes_round : Fn P w K mg base CX0 5 "goes_round" ["points", "ties", "arrows"] (sp_goes_round K)) (G_merged : Fn P w K mg base CX0 4 "merged" ["points", "ties", "tie"] (sp_merged K)) (G_pairs : Fn P w K mg base CX0 5 "pairs" ["points", "ties", "q"] (sp_pairs K)) (G_ranks : Fn P w K mg base CX0 5 "ranks" ["points", "ties", "arrows"] (sp_ranks K)) (G_setting_of : Fn P w K mg base CX0 4 "setting_of" ["points", "ties", "dyes"] (sp_setting_of K)) (G_settings : Fn P w K mg base CX0 5 "settings" ["points", "ties"] (sp_settings K)) (G_unbroken : Fn P w K mg base CX0 5 "unbroken" ["points", "ties", "many"] (sp_unbroken K)) (At__law_others : At K mg "_law_others" s__law_others ["which", "points", "ties", "tints"]) : Fn P w K mg base CX0 7 "_law_others" ["which", "points", "ties", "tints"] (sp__law_others K) := Fn.of At__law_others fun {f fd} F => F.ok sc__law_others (fun vs H Q E h => len4 h) (fun cdv A outer s H vs Q E hr h => absurd h (no_4 fun _ _ _ _ => rfl))
noncomputable abbrev spx__law_others (K : PySem.W.Frag) (mg : Str → Option Value) : Sp := spx4 rInt rInt (rL rII) (rL rInt) x__law_others K mg
theorem fx__law_others (B : Blt K mg) (G_cut : Fn P w K mg base CX0 4 "cut" ["points", "ties", "tie"] (sp_cut K)) (G_flattest : Fn P w K mg base CX0 6 "flattest" ["points", "ties"] (sp_flattest K)) (G_from_spring : Fn P w K mg base CX0 5 "from_spring" ["points", "ties", "point"] (sp_from_spring K)) (G_goes_round : Fn P w K mg base CX0 5 "goes_round" ["points", "ties", "arrows"] (sp_goes_round K)) (G_merged : Fn P w K mg base CX0 4 "merged" ["points", "ties", "tie"] (sp_merged K)) (G_pairs : Fn P w K mg base CX0 5 "pairs" ["points", "ties", "q"] (sp_pairs K)) (G_ranks : Fn P w K mg base CX0 5 "ranks" ["points", "ties", "arrows"] (sp_ranks K)) (G_setting_of : Fn P w K mg base CX0 4 "setting_of" ["points", "ties", "dyes"] (sp_setting_of K)) (G_settings : Fn P w K mg base CX0 5 "settings" ["points", "ties"] (sp_settings K)) (G_unbroken : Fn P w K mg base CX0 5 "unbroken" ["points", "ties", "many"] (sp_unbroken K)) (GB_cut : Fc P w K mg base (CX1 P w) 4 "cut" (spB (sp_cut K) (spx_cut K mg))) (GB_flattest : Fc P w K mg base (CX1 P w) 6 "flattest" (spB (sp_flattest K) (spx_flattest K mg))) (GB_from_spring : Fc P w K mg base (CX1 P w) 5 "from_spring" (spB (sp_from_spring K) (spx_from_spring K mg))) (GB_goes_round : Fc P w K mg base (CX1 P w) 5 "goes_round" (spB (sp_goes_round K) (spx_goes_round K mg))) (GB_merged : Fc P w K mg base (CX1 P w) 4 "merged" (spB (sp_merged K) (spx_merged K mg))) (GB_pairs : Fc P w K mg base (CX1 P w) 5 "pairs" (spB (sp_pairs K) (spx_pairs K mg))) (GB_ranks : Fc P w K mg base (CX1 P w) 5 "ranks" (spB (sp_ranks K) (spx_ranks K mg))) (GB_setting_of : Fc P w K mg base (CX1 P w) 4 "setting_of" (spB (sp_setting_of K) (spx_setting_of K mg))) (GB_settings : Fc P w K mg base (CX1 P w) 5 "settings" (spB (sp_settings K) (spx_settings K mg))) (GB_unbroken : Fc P w K mg base (CX1 P w) 5 "unbroken" (spB (sp_unbroken K) (spx_unbroken K mg))) (At__law_others : At K mg "_law_others" s__law_others ["which", "points", "ties", "tints"]) : Fn P w K mg base (CX1 P w) 7 "_law_others" ["which", "points", "ties", "tints"] (spx__law_others K mg) := by
  refine Fn.of At__law_others fun {f fd} F => F.ok1 sc__law_others (fun vs H Q E h => lenx4 h) (fun cdv A outer s H vs Q E hr h => ?_)
  exact (spx4_el (f := x__law_others_0) (fun h => ⟨_, (pss_cons (ps_if (PT.nox (pt_cmpR op_eq (pv 0) pe_int (nomark _)))
(pss_cons (ps_expr (pe_callC GB_goes_round hr rfl pass1S (pa_cons (pv 1) (pa_cons (pv 2) (pa_cons (pe_lst (pa_cons pe_bl pa_nil)) pa_nil))))) pss_never)
pss_never) pss_never), runx4 (N := ["which", "points", "ties", "tints"]) h (fun v_which v_points v_ties v_tints =>
(sjx_first (sjx_if (et_cmp (ev_op o_eqI (ev_var (i := 0)) ev_int))
(sjx_first (sjx_expr (evx_3 (ev_var (i := 1)) (ev_var (i := 2)) (en_lst (r := rBool) (ea_cons ev_bl ea_nil)).ev) kx_none)) sjx_no)))⟩)
(spx4_el (f := x__law_others_1) (fun h => ⟨_, (pss_cons (PS.nox (ps_if (pt_cmpR op_eq (pv 0) pe_int (nomark _))
(pss_one (ps_expr (pe_callF G_goes_round hr rfl pass0 (pa_cons (pv 1) (pa_cons (pv 2) (pa_cons (pe_lst (pa_cons pe_bl pa_nil)) pa_nil))))))
pss_nil))
(pss_cons (ps_if (PT.nox (pt_cmpR op_eq (pv 0) pe_int (nomark _)))
(pss_cons (ps_expr (pe_callC GB_ranks hr rfl pass1S (pa_cons (pv 1) (pa_cons (pv 2) (pa_cons (pe_lst pa_nil) pa_nil))))) pss_never)
pss_never) pss_never)), runx4 (N := ["which", "points", "ties", "tints"]) h (fun v_which v_points v_ties v_tints =>
(sjx_seq (rr := (rtV rUnit)) (ks1 := fun (s19 : Unit) => [Kd.vis rInt v_which, Kd.vis rInt v_points, Kd.vis (rL rII) v_ties, Kd.vis (rL rInt) v_tints])
(sj_if (ks' := fun (s19 : Unit) => [Kd.vis rInt v_which, Kd.vis rInt v_points, Kd.vis (rL rII) v_ties, Kd.vis (rL rInt) v_tints]) (et_cmp (ev_op o_eqI (ev_var (i := 0)) ev_int))
(sj_post (g := (fun (u20 : Unit) => (() : Unit)))
(sj_expr (EvR.ev (er_3 (ev_var (i := 1)) (ev_var (i := 2)) (en_lst (r := rBool) (ea_cons ev_bl ea_nil)).ev))) (fun u20 => (KWk.same (KWk.same (KWk.same (KWk.same KWk.nil))))))
(sj_next (KWk.same (KWk.same (KWk.same (KWk.same KWk.nil)))))) (fun s19 =>
(sjx_first (sjx_if (et_cmp (ev_op o_eqI (ev_var (i := 0)) ev_int))
(sjx_first (sjx_expr (evx_3 (ev_var (i := 1)) (ev_var (i := 2)) (en_lst (r := rBool) ea_nil).ev) kx_none)) sjx_no)))))⟩)
(spx4_el (f := x__law_others_2) (fun h => ⟨_, (pss_cons (PS.nox (ps_if (pt_cmpR op_eq (pv 0) pe_int (nomark _))
(pss_one (ps_expr (pe_callF G_goes_round hr rfl pass0 (pa_cons (pv 1) (pa_cons (pv 2) (pa_cons (pe_lst (pa_cons pe_bl pa_nil)) pa_nil))))))
pss_nil))
(pss_cons (PS.nox (ps_if (pt_cmpR op_eq (pv 0) pe_int (nomark _))
(pss_one (ps_expr (pe_callF G_ranks hr rfl pass0 (pa_cons (pv 1) (pa_cons (pv 2) (pa_cons (pe_lst pa_nil) pa_nil))))))
pss_nil))
(pss_cons (ps_if (PT.nox (pt_cmpR op_eq (pv 0) pe_int (nomark _)))
(pss_cons (ps_expr (pe_callC GB_setting_of hr rfl pass1S (pa_cons (pv 1) (pa_cons (pv 2) (pa_cons (pv 3) pa_nil))))) pss_never)
pss_never) pss_never))), runx4 (N := ["which", "points", "ties", "tints"]) h (fun v_which v_points v_ties v_tints =>
(sjx_seq (rr := (rtV rUnit)) (ks1 := fun (s19 : Unit) => [Kd.vis rInt v_which, Kd.vis rInt v_points, Kd.vis (rL rII) v_ties, Kd.vis (rL rInt) v_tints])
(sj_if (ks' := fun (s19 : Unit) => [Kd.vis rInt v_which, Kd.vis rInt v_points, Kd.vis (rL rII) v_ties, Kd.vis (rL rInt) v_tints]) (et_cmp (ev_op o_eqI (ev_var (i := 0)) ev_int))
(sj_post (g := (fun (u20 : Unit) => (() : Unit)))
(sj_expr (EvR.ev (er_3 (ev_var (i := 1)) (ev_var (i := 2)) (en_lst (r := rBool) (ea_cons ev_bl ea_nil)).ev))) (fun u20 => (KWk.same (KWk.same (KWk.same (KWk.same KWk.nil))))))
(sj_next (KWk.same (KWk.same (KWk.same (KWk.same KWk.nil)))))) (fun s19 =>
(sjx_seq (rr := (rtV rUnit)) (ks1 := fun (s21 : Unit) => [Kd.vis rInt v_which, Kd.vis rInt v_points, Kd.vis (rL rII) v_ties, Kd.vis (rL rInt) v_tints])
(sj_if (ks' := fun (s21 : Unit) => [Kd.vis rInt v_which, Kd.vis rInt v_points, Kd.vis (rL rII) v_ties, Kd.vis (rL rInt) v_tints]) (et_cmp (ev_op o_eqI (ev_var (i := 0)) ev_int))
(sj_post (g := (fun (u22 : Unit) => (() : Unit)))
(sj_expr (EvR.ev (er_3 (ev_var (i := 1)) (ev_var (i := 2)) (en_lst (r := rBool) ea_nil).ev))) (fun u22 => (KWk.same (KWk.same (KWk.same (KWk.same KWk.nil))))))
(sj_next (KWk.same (KWk.same (KWk.same (KWk.same KWk.nil)))))) (fun s21 =>
(sjx_first (sjx_if (et_cmp (ev_op o_eqI (ev_var (i := 0)) ev_int))
(sjx_first (sjx_expr (evx_3 (ev_var (i := 1)) (ev_var (i := 2)) (ev_var (i := 3))) kx_none)) sjx_no)))))))⟩)
(spx4_el (f := x__law_others_3) (fun h => ⟨_, (pss_cons (PS.nox (ps_if (pt_cmpR op_eq (pv 0) pe_int (nomark _))
(pss_one (ps_expr (pe_callF G_goes_round hr rfl pass0 (pa_cons (pv 1) (pa_cons (pv 2) (pa_cons (pe_lst (pa_cons pe_bl pa_nil)) pa_nil))))))
pss_nil))
(pss_cons (PS.nox (ps_if (pt_cmpR op_eq (pv 0) pe_int (nomark _))
(pss_one (ps_expr (pe_callF G_ranks hr rfl pass0 (pa_cons (pv 1) (pa_cons (pv 2) (pa_cons (pe_lst pa_nil) pa_nil))))))
pss_nil))
(pss_cons (PS.nox (ps_if (pt_cmpR op_eq (pv 0) pe_int (nomark _))
(pss_one (ps_expr (pe_callF G_setting_of hr rfl pass0 (pa_cons (pv 1) (pa_cons (pv 2) (pa_cons (pv 3) pa_nil))))))
pss_nil))
(pss_cons (ps_if (PT.nox (pt_cmpR op_eq (pv 0) pe_int (nomark _)))
(pss_cons (ps_expr (pe_callC GB_flattest hr rfl pass1S (pa_cons (pv 1) (pa_cons (pv 2) pa_nil)))) pss_never)
pss_never) pss_never)))), runx4 (N := ["which", "points", "ties", "tints"]) h (fun v_which v_points v_ties v_tints =>
(sjx_seq (rr := (rtV rUnit)) (ks1 := fun (s19 : Unit) => [Kd.vis rInt v_which, Kd.vis rInt v_points, Kd.vis (rL rII) v_ties, Kd.vis (rL rInt) v_tints])
(sj_if (ks' := fun (s19 : Unit) => [Kd.vis rInt v_which, Kd.vis rInt v_points, Kd.vis (rL rII) v_ties, Kd.vis (rL rInt) v_tints]) (et_cmp (ev_op o_eqI (ev_var (i := 0)) ev_int))
(sj_post (g := (fun (u20 : Unit) => (() : Unit)))
(sj_expr (EvR.ev (er_3 (ev_var (i := 1)) (ev_var (i := 2)) (en_lst (r := rBool) (ea_cons ev_bl ea_nil)).ev))) (fun u20 => (KWk.same (KWk.same (KWk.same (KWk.same KWk.nil))))))
(sj_next (KWk.same (KWk.same (KWk.same (KWk.same KWk.nil)))))) (fun s19 =>
(sjx_seq (rr := (rtV rUnit)) (ks1 := fun (s21 : Unit) => [Kd.vis rInt v_which, Kd.vis rInt v_points, Kd.vis (rL rII) v_ties, Kd.vis (rL rInt) v_tints])
(sj_if (ks' := fun (s21 : Unit) => [Kd.vis rInt v_which, Kd.vis rInt v_points, Kd.vis (rL rII) v_ties, Kd.vis (rL rInt) v_tints]) (et_cmp (ev_op o_eqI (ev_var (i := 0)) ev_int))
(sj_post (g := (fun (u22 : Unit) => (() : Unit)))
(sj_expr (EvR.ev (er_3 (ev_var (i := 1)) (ev_var (i := 2)) (en_lst (r := rBool) ea_nil).ev))) (fun u22 => (KWk.same (KWk.same (KWk.same (KWk.same KWk.nil))))))
(sj_next (KWk.same (KWk.same (KWk.same (KWk.same KWk.nil)))))) (fun s21 =>
(sjx_seq (rr := (rtV rUnit)) (ks1 := fun (s23 : Unit) => [Kd.vis rInt v_which, Kd.vis rInt v_points, Kd.vis (rL rII) v_ties, Kd.vis (rL rInt) v_tints])
(sj_if (ks' := fun (s23 : Unit) => [Kd.vis rInt v_which, Kd.vis rInt v_points, Kd.vis (rL rII) v_ties, Kd.vis (rL rInt) v_tints]) (et_cmp (ev_op o_eqI (ev_var (i := 0)) ev_int))
(sj_post (g := (fun (u24 : Unit) => (() : Unit)))
(sj_expr (EvN.ev (EvR.en (er_3 (ev_var (i := 1)) (ev_var (i := 2)) (ev_var (i := 3)))))) (fun u24 => (KWk.same (KWk.same (KWk.same (KWk.same KWk.nil))))))
(sj_next (KWk.same (KWk.same (KWk.same (KWk.same KWk.nil)))))) (fun s23 =>
(sjx_first (sjx_if (et_cmp (ev_op o_eqI (ev_var (i := 0)) ev_int))
(sjx_first (sjx_expr (evx_2 (ev_var (i := 1)) (ev_var (i := 2))) kx_none)) sjx_no)))))))))⟩)
(spx4_el (f := x__law_others_4) (fun h => ⟨_, (pss_cons (PS.nox (ps_if (pt_cmpR op_eq (pv 0) pe_int (nomark _))
(pss_one (ps_expr (pe_callF G_goes_round hr rfl pass0 (pa_cons (pv 1) (pa_cons (pv 2) (pa_cons (pe_lst (pa_cons pe_bl pa_nil)) pa_nil))))))
pss_nil))
(pss_cons (PS.nox (ps_if (pt_cmpR op_eq (pv 0) pe_int (nomark _))
(pss_one (ps_expr (pe_callF G_ranks hr rfl pass0 (pa_cons (pv 1) (pa_cons (pv 2) (pa_cons (pe_lst pa_nil) pa_nil))))))
pss_nil))
(pss_cons (PS.nox (ps_if (pt_cmpR op_eq (pv 0) pe_int (nomark _))
(pss_one (ps_expr (pe_callF G_setting_of hr rfl pass0 (pa_cons (pv 1) (pa_cons (pv 2) (pa_cons (pv 3) pa_nil))))))
pss_nil))
(pss_cons (PS.nox (ps_if (pt_cmpR op_eq (pv 0) pe_int (nomark _))
(pss_one (ps_expr (pe_callF G_flattest hr rfl pass0 (pa_cons (pv 1) (pa_cons (pv 2) pa_nil)))))
pss_nil))
(pss_cons (ps_if (PT.nox (pt_cmpR op_eq (pv 0) pe_int (nomark _)))
(pss_cons (ps_expr (pe_callC GB_settings hr rfl pass1S (pa_cons (pv 1) (pa_cons (pv 2) pa_nil)))) pss_never)
pss_never) pss_never))))), runx4 (N := ["which", "points", "ties", "tints"]) h (fun v_which v_points v_ties v_tints =>
(sjx_seq (rr := (rtV rUnit)) (ks1 := fun (s19 : Unit) => [Kd.vis rInt v_which, Kd.vis rInt v_points, Kd.vis (rL rII) v_ties, Kd.vis (rL rInt) v_tints])
(sj_if (ks' := fun (s19 : Unit) => [Kd.vis rInt v_which, Kd.vis rInt v_points, Kd.vis (rL rII) v_ties, Kd.vis (rL rInt) v_tints]) (et_cmp (ev_op o_eqI (ev_var (i := 0)) ev_int))
(sj_post (g := (fun (u20 : Unit) => (() : Unit)))
(sj_expr (EvR.ev (er_3 (ev_var (i := 1)) (ev_var (i := 2)) (en_lst (r := rBool) (ea_cons ev_bl ea_nil)).ev))) (fun u20 => (KWk.same (KWk.same (KWk.same (KWk.same KWk.nil))))))
(sj_next (KWk.same (KWk.same (KWk.same (KWk.same KWk.nil)))))) (fun s19 =>
(sjx_seq (rr := (rtV rUnit)) (ks1 := fun (s21 : Unit) => [Kd.vis rInt v_which, Kd.vis rInt v_points, Kd.vis (rL rII) v_ties, Kd.vis (rL rInt) v_tints])
(sj_if (ks' := fun (s21 : Unit) => [Kd.vis rInt v_which, Kd.vis rInt v_points, Kd.vis (rL rII) v_ties, Kd.vis (rL rInt) v_tints]) (et_cmp (ev_op o_eqI (ev_var (i := 0)) ev_int))
(sj_post (g := (fun (u22 : Unit) => (() : Unit)))
(sj_expr (EvR.ev (er_3 (ev_var (i := 1)) (ev_var (i := 2)) (en_lst (r := rBool) ea_nil).ev))) (fun u22 => (KWk.same (KWk.same (KWk.same (KWk.same KWk.nil))))))
(sj_next (KWk.same (KWk.same (KWk.same (KWk.same KWk.nil)))))) (fun s21 =>
(sjx_seq (rr := (rtV rUnit)) (ks1 := fun (s23 : Unit) => [Kd.vis rInt v_which, Kd.vis rInt v_points, Kd.vis (rL rII) v_ties, Kd.vis (rL rInt) v_tints])
(sj_if (ks' := fun (s23 : Unit) => [Kd.vis rInt v_which, Kd.vis rInt v_points, Kd.vis (rL rII) v_ties, Kd.vis (rL rInt) v_tints]) (et_cmp (ev_op o_eqI (ev_var (i := 0)) ev_int))
(sj_post (g := (fun (u24 : Unit) => (() : Unit)))
(sj_expr (EvN.ev (EvR.en (er_3 (ev_var (i := 1)) (ev_var (i := 2)) (ev_var (i := 3)))))) (fun u24 => (KWk.same (KWk.same (KWk.same (KWk.same KWk.nil))))))
(sj_next (KWk.same (KWk.same (KWk.same (KWk.same KWk.nil)))))) (fun s23 =>
(sjx_seq (rr := (rtV rUnit)) (ks1 := fun (s25 : Unit) => [Kd.vis rInt v_which, Kd.vis rInt v_points, Kd.vis (rL rII) v_ties, Kd.vis (rL rInt) v_tints])
(sj_if (ks' := fun (s25 : Unit) => [Kd.vis rInt v_which, Kd.vis rInt v_points, Kd.vis (rL rII) v_ties, Kd.vis (rL rInt) v_tints]) (et_cmp (ev_op o_eqI (ev_var (i := 0)) ev_int))
(sj_post (g := (fun (u26 : Unit) => (() : Unit)))
(sj_expr (EvN.ev (EvR.en (er_2 (ev_var (i := 1)) (ev_var (i := 2)))))) (fun u26 => (KWk.same (KWk.same (KWk.same (KWk.same KWk.nil))))))
(sj_next (KWk.same (KWk.same (KWk.same (KWk.same KWk.nil)))))) (fun s25 =>
(sjx_first (sjx_if (et_cmp (ev_op o_eqI (ev_var (i := 0)) ev_int))
(sjx_first (sjx_expr (evx_2 (ev_var (i := 1)) (ev_var (i := 2))) kx_none)) sjx_no)))))))))))⟩)
(spx4_el (f := x__law_others_5) (fun h => ⟨_, (pss_cons (PS.nox (ps_if (pt_cmpR op_eq (pv 0) pe_int (nomark _))
(pss_one (ps_expr (pe_callF G_goes_round hr rfl pass0 (pa_cons (pv 1) (pa_cons (pv 2) (pa_cons (pe_lst (pa_cons pe_bl pa_nil)) pa_nil))))))
pss_nil))
(pss_cons (PS.nox (ps_if (pt_cmpR op_eq (pv 0) pe_int (nomark _))
(pss_one (ps_expr (pe_callF G_ranks hr rfl pass0 (pa_cons (pv 1) (pa_cons (pv 2) (pa_cons (pe_lst pa_nil) pa_nil))))))
pss_nil))
(pss_cons (PS.nox (ps_if (pt_cmpR op_eq (pv 0) pe_int (nomark _))
(pss_one (ps_expr (pe_callF G_setting_of hr rfl pass0 (pa_cons (pv 1) (pa_cons (pv 2) (pa_cons (pv 3) pa_nil))))))
pss_nil))
(pss_cons (PS.nox (ps_if (pt_cmpR op_eq (pv 0) pe_int (nomark _))
(pss_one (ps_expr (pe_callF G_flattest hr rfl pass0 (pa_cons (pv 1) (pa_cons (pv 2) pa_nil)))))
pss_nil))
(pss_cons (PS.nox (ps_if (pt_cmpR op_eq (pv 0) pe_int (nomark _))
(pss_one (ps_expr (pe_callF G_settings hr rfl pass0 (pa_cons (pv 1) (pa_cons (pv 2) pa_nil)))))
pss_nil))
(pss_cons (ps_if (PT.nox (pt_cmpR op_eq (pv 0) pe_int (nomark _)))
(pss_cons (ps_expr (pe_callC GB_from_spring hr rfl pass1S (pa_cons (pv 1) (pa_cons (pv 2) (pa_cons pe_int pa_nil))))) pss_never)
pss_never) pss_never)))))), runx4 (N := ["which", "points", "ties", "tints"]) h (fun v_which v_points v_ties v_tints =>
(sjx_seq (rr := (rtV rUnit)) (ks1 := fun (s19 : Unit) => [Kd.vis rInt v_which, Kd.vis rInt v_points, Kd.vis (rL rII) v_ties, Kd.vis (rL rInt) v_tints])
(sj_if (ks' := fun (s19 : Unit) => [Kd.vis rInt v_which, Kd.vis rInt v_points, Kd.vis (rL rII) v_ties, Kd.vis (rL rInt) v_tints]) (et_cmp (ev_op o_eqI (ev_var (i := 0)) ev_int))
(sj_post (g := (fun (u20 : Unit) => (() : Unit)))
(sj_expr (EvR.ev (er_3 (ev_var (i := 1)) (ev_var (i := 2)) (en_lst (r := rBool) (ea_cons ev_bl ea_nil)).ev))) (fun u20 => (KWk.same (KWk.same (KWk.same (KWk.same KWk.nil))))))
(sj_next (KWk.same (KWk.same (KWk.same (KWk.same KWk.nil)))))) (fun s19 =>
(sjx_seq (rr := (rtV rUnit)) (ks1 := fun (s21 : Unit) => [Kd.vis rInt v_which, Kd.vis rInt v_points, Kd.vis (rL rII) v_ties, Kd.vis (rL rInt) v_tints])
(sj_if (ks' := fun (s21 : Unit) => [Kd.vis rInt v_which, Kd.vis rInt v_points, Kd.vis (rL rII) v_ties, Kd.vis (rL rInt) v_tints]) (et_cmp (ev_op o_eqI (ev_var (i := 0)) ev_int))
(sj_post (g := (fun (u22 : Unit) => (() : Unit)))
(sj_expr (EvR.ev (er_3 (ev_var (i := 1)) (ev_var (i := 2)) (en_lst (r := rBool) ea_nil).ev))) (fun u22 => (KWk.same (KWk.same (KWk.same (KWk.same KWk.nil))))))
(sj_next (KWk.same (KWk.same (KWk.same (KWk.same KWk.nil)))))) (fun s21 =>
(sjx_seq (rr := (rtV rUnit)) (ks1 := fun (s23 : Unit) => [Kd.vis rInt v_which, Kd.vis rInt v_points, Kd.vis (rL rII) v_ties, Kd.vis (rL rInt) v_tints])
(sj_if (ks' := fun (s23 : Unit) => [Kd.vis rInt v_which, Kd.vis rInt v_points, Kd.vis (rL rII) v_ties, Kd.vis (rL rInt) v_tints]) (et_cmp (ev_op o_eqI (ev_var (i := 0)) ev_int))
(sj_post (g := (fun (u24 : Unit) => (() : Unit)))
(sj_expr (EvN.ev (EvR.en (er_3 (ev_var (i := 1)) (ev_var (i := 2)) (ev_var (i := 3)))))) (fun u24 => (KWk.same (KWk.same (KWk.same (KWk.same KWk.nil))))))
(sj_next (KWk.same (KWk.same (KWk.same (KWk.same KWk.nil)))))) (fun s23 =>
(sjx_seq (rr := (rtV rUnit)) (ks1 := fun (s25 : Unit) => [Kd.vis rInt v_which, Kd.vis rInt v_points, Kd.vis (rL rII) v_ties, Kd.vis (rL rInt) v_tints])
(sj_if (ks' := fun (s25 : Unit) => [Kd.vis rInt v_which, Kd.vis rInt v_points, Kd.vis (rL rII) v_ties, Kd.vis (rL rInt) v_tints]) (et_cmp (ev_op o_eqI (ev_var (i := 0)) ev_int))
(sj_post (g := (fun (u26 : Unit) => (() : Unit)))
(sj_expr (EvN.ev (EvR.en (er_2 (ev_var (i := 1)) (ev_var (i := 2)))))) (fun u26 => (KWk.same (KWk.same (KWk.same (KWk.same KWk.nil))))))
(sj_next (KWk.same (KWk.same (KWk.same (KWk.same KWk.nil)))))) (fun s25 =>
(sjx_seq (rr := (rtV rUnit)) (ks1 := fun (s27 : Unit) => [Kd.vis rInt v_which, Kd.vis rInt v_points, Kd.vis (rL rII) v_ties, Kd.vis (rL rInt) v_tints])
(sj_if (ks' := fun (s27 : Unit) => [Kd.vis rInt v_which, Kd.vis rInt v_points, Kd.vis (rL rII) v_ties, Kd.vis (rL rInt) v_tints]) (et_cmp (ev_op o_eqI (ev_var (i := 0)) ev_int))
(sj_post (g := (fun (u28 : Unit) => (() : Unit)))
(sj_expr (EvR.ev (er_2 (ev_var (i := 1)) (ev_var (i := 2))))) (fun u28 => (KWk.same (KWk.same (KWk.same (KWk.same KWk.nil))))))
(sj_next (KWk.same (KWk.same (KWk.same (KWk.same KWk.nil)))))) (fun s27 =>
(sjx_first (sjx_if (et_cmp (ev_op o_eqI (ev_var (i := 0)) ev_int))
(sjx_first (sjx_expr (evx_3 (ev_var (i := 1)) (ev_var (i := 2)) ev_int) kx_none)) sjx_no)))))))))))))⟩)
(spx4_el (f := x__law_others_6) (fun h => ⟨_, (pss_cons (PS.nox (ps_if (pt_cmpR op_eq (pv 0) pe_int (nomark _))
(pss_one (ps_expr (pe_callF G_goes_round hr rfl pass0 (pa_cons (pv 1) (pa_cons (pv 2) (pa_cons (pe_lst (pa_cons pe_bl pa_nil)) pa_nil))))))
pss_nil))
(pss_cons (PS.nox (ps_if (pt_cmpR op_eq (pv 0) pe_int (nomark _))
(pss_one (ps_expr (pe_callF G_ranks hr rfl pass0 (pa_cons (pv 1) (pa_cons (pv 2) (pa_cons (pe_lst pa_nil) pa_nil))))))
pss_nil))
(pss_cons (PS.nox (ps_if (pt_cmpR op_eq (pv 0) pe_int (nomark _))
(pss_one (ps_expr (pe_callF G_setting_of hr rfl pass0 (pa_cons (pv 1) (pa_cons (pv 2) (pa_cons (pv 3) pa_nil))))))
pss_nil))
(pss_cons (PS.nox (ps_if (pt_cmpR op_eq (pv 0) pe_int (nomark _))
(pss_one (ps_expr (pe_callF G_flattest hr rfl pass0 (pa_cons (pv 1) (pa_cons (pv 2) pa_nil)))))
pss_nil))
(pss_cons (PS.nox (ps_if (pt_cmpR op_eq (pv 0) pe_int (nomark _))
(pss_one (ps_expr (pe_callF G_settings hr rfl pass0 (pa_cons (pv 1) (pa_cons (pv 2) pa_nil)))))
pss_nil))
(pss_cons (PS.nox (ps_if (pt_cmpR op_eq (pv 0) pe_int (nomark _))
(pss_one (ps_expr (pe_callF G_from_spring hr rfl pass0 (pa_cons (pv 1) (pa_cons (pv 2) (pa_cons pe_int pa_nil))))))
pss_nil))
(pss_cons (ps_if (PT.nox (pt_cmpR op_eq (pv 0) pe_int (nomark _)))
(pss_cons (ps_expr (pe_callC GB_pairs hr rfl pass1S (pa_cons (pv 1) (pa_cons (pv 2) (pa_cons pe_int pa_nil))))) pss_never)
pss_never) pss_never))))))), runx4 (N := ["which", "points", "ties", "tints"]) h (fun v_which v_points v_ties v_tints =>
(sjx_seq (rr := (rtV rUnit)) (ks1 := fun (s19 : Unit) => [Kd.vis rInt v_which, Kd.vis rInt v_points, Kd.vis (rL rII) v_ties, Kd.vis (rL rInt) v_tints])
(sj_if (ks' := fun (s19 : Unit) => [Kd.vis rInt v_which, Kd.vis rInt v_points, Kd.vis (rL rII) v_ties, Kd.vis (rL rInt) v_tints]) (et_cmp (ev_op o_eqI (ev_var (i := 0)) ev_int))
(sj_post (g := (fun (u20 : Unit) => (() : Unit)))
(sj_expr (EvR.ev (er_3 (ev_var (i := 1)) (ev_var (i := 2)) (en_lst (r := rBool) (ea_cons ev_bl ea_nil)).ev))) (fun u20 => (KWk.same (KWk.same (KWk.same (KWk.same KWk.nil))))))
(sj_next (KWk.same (KWk.same (KWk.same (KWk.same KWk.nil)))))) (fun s19 =>
(sjx_seq (rr := (rtV rUnit)) (ks1 := fun (s21 : Unit) => [Kd.vis rInt v_which, Kd.vis rInt v_points, Kd.vis (rL rII) v_ties, Kd.vis (rL rInt) v_tints])
(sj_if (ks' := fun (s21 : Unit) => [Kd.vis rInt v_which, Kd.vis rInt v_points, Kd.vis (rL rII) v_ties, Kd.vis (rL rInt) v_tints]) (et_cmp (ev_op o_eqI (ev_var (i := 0)) ev_int))
(sj_post (g := (fun (u22 : Unit) => (() : Unit)))
(sj_expr (EvR.ev (er_3 (ev_var (i := 1)) (ev_var (i := 2)) (en_lst (r := rBool) ea_nil).ev))) (fun u22 => (KWk.same (KWk.same (KWk.same (KWk.same KWk.nil))))))
(sj_next (KWk.same (KWk.same (KWk.same (KWk.same KWk.nil)))))) (fun s21 =>
(sjx_seq (rr := (rtV rUnit)) (ks1 := fun (s23 : Unit) => [Kd.vis rInt v_which, Kd.vis rInt v_points, Kd.vis (rL rII) v_ties, Kd.vis (rL rInt) v_tints])
(sj_if (ks' := fun (s23 : Unit) => [Kd.vis rInt v_which, Kd.vis rInt v_points, Kd.vis (rL rII) v_ties, Kd.vis (rL rInt) v_tints]) (et_cmp (ev_op o_eqI (ev_var (i := 0)) ev_int))
(sj_post (g := (fun (u24 : Unit) => (() : Unit)))
(sj_expr (EvN.ev (EvR.en (er_3 (ev_var (i := 1)) (ev_var (i := 2)) (ev_var (i := 3)))))) (fun u24 => (KWk.same (KWk.same (KWk.same (KWk.same KWk.nil))))))
(sj_next (KWk.same (KWk.same (KWk.same (KWk.same KWk.nil)))))) (fun s23 =>
(sjx_seq (rr := (rtV rUnit)) (ks1 := fun (s25 : Unit) => [Kd.vis rInt v_which, Kd.vis rInt v_points, Kd.vis (rL rII) v_ties, Kd.vis (rL rInt) v_tints])
(sj_if (ks' := fun (s25 : Unit) => [Kd.vis rInt v_which, Kd.vis rInt v_points, Kd.vis (rL rII) v_ties, Kd.vis (rL rInt) v_tints]) (et_cmp (ev_op o_eqI (ev_var (i := 0)) ev_int))
(sj_post (g := (fun (u26 : Unit) => (() : Unit)))
(sj_expr (EvN.ev (EvR.en (er_2 (ev_var (i := 1)) (ev_var (i := 2)))))) (fun u26 => (KWk.same (KWk.same (KWk.same (KWk.same KWk.nil))))))
(sj_next (KWk.same (KWk.same (KWk.same (KWk.same KWk.nil)))))) (fun s25 =>
(sjx_seq (rr := (rtV rUnit)) (ks1 := fun (s27 : Unit) => [Kd.vis rInt v_which, Kd.vis rInt v_points, Kd.vis (rL rII) v_ties, Kd.vis (rL rInt) v_tints])
(sj_if (ks' := fun (s27 : Unit) => [Kd.vis rInt v_which, Kd.vis rInt v_points, Kd.vis (rL rII) v_ties, Kd.vis (rL rInt) v_tints]) (et_cmp (ev_op o_eqI (ev_var (i := 0)) ev_int))
(sj_post (g := (fun (u28 : Unit) => (() : Unit)))
(sj_expr (EvR.ev (er_2 (ev_var (i := 1)) (ev_var (i := 2))))) (fun u28 => (KWk.same (KWk.same (KWk.same (KWk.same KWk.nil))))))
(sj_next (KWk.same (KWk.same (KWk.same (KWk.same KWk.nil)))))) (fun s27 =>
(sjx_seq (rr := (rtV rUnit)) (ks1 := fun (s29 : Unit) => [Kd.vis rInt v_which, Kd.vis rInt v_points, Kd.vis (rL rII) v_ties, Kd.vis (rL rInt) v_tints])
(sj_if (ks' := fun (s29 : Unit) => [Kd.vis rInt v_which, Kd.vis rInt v_points, Kd.vis (rL rII) v_ties, Kd.vis (rL rInt) v_tints]) (et_cmp (ev_op o_eqI (ev_var (i := 0)) ev_int))
(sj_post (g := (fun (u30 : Unit) => (() : Unit)))
(sj_expr (EvR.ev (er_3 (ev_var (i := 1)) (ev_var (i := 2)) ev_int))) (fun u30 => (KWk.same (KWk.same (KWk.same (KWk.same KWk.nil))))))
(sj_next (KWk.same (KWk.same (KWk.same (KWk.same KWk.nil)))))) (fun s29 =>
(sjx_first (sjx_if (et_cmp (ev_op o_eqI (ev_var (i := 0)) ev_int))
(sjx_first (sjx_expr (evx_3 (ev_var (i := 1)) (ev_var (i := 2)) ev_int) kx_none)) sjx_no)))))))))))))))⟩)
(spx4_el (f := x__law_others_7) (fun h => ⟨_, (pss_cons (PS.nox (ps_if (pt_cmpR op_eq (pv 0) pe_int (nomark _))
(pss_one (ps_expr (pe_callF G_goes_round hr rfl pass0 (pa_cons (pv 1) (pa_cons (pv 2) (pa_cons (pe_lst (pa_cons pe_bl pa_nil)) pa_nil))))))
pss_nil))
(pss_cons (PS.nox (ps_if (pt_cmpR op_eq (pv 0) pe_int (nomark _))
(pss_one (ps_expr (pe_callF G_ranks hr rfl pass0 (pa_cons (pv 1) (pa_cons (pv 2) (pa_cons (pe_lst pa_nil) pa_nil))))))
pss_nil))
(pss_cons (PS.nox (ps_if (pt_cmpR op_eq (pv 0) pe_int (nomark _))
(pss_one (ps_expr (pe_callF G_setting_of hr rfl pass0 (pa_cons (pv 1) (pa_cons (pv 2) (pa_cons (pv 3) pa_nil))))))
pss_nil))
(pss_cons (PS.nox (ps_if (pt_cmpR op_eq (pv 0) pe_int (nomark _))
(pss_one (ps_expr (pe_callF G_flattest hr rfl pass0 (pa_cons (pv 1) (pa_cons (pv 2) pa_nil)))))
pss_nil))
(pss_cons (PS.nox (ps_if (pt_cmpR op_eq (pv 0) pe_int (nomark _))
(pss_one (ps_expr (pe_callF G_settings hr rfl pass0 (pa_cons (pv 1) (pa_cons (pv 2) pa_nil)))))
pss_nil))
(pss_cons (PS.nox (ps_if (pt_cmpR op_eq (pv 0) pe_int (nomark _))
(pss_one (ps_expr (pe_callF G_from_spring hr rfl pass0 (pa_cons (pv 1) (pa_cons (pv 2) (pa_cons pe_int pa_nil))))))
pss_nil))
(pss_cons (PS.nox (ps_if (pt_cmpR op_eq (pv 0) pe_int (nomark _))
(pss_one (ps_expr (pe_callF G_pairs hr rfl pass0 (pa_cons (pv 1) (pa_cons (pv 2) (pa_cons pe_int pa_nil))))))
pss_nil))
(pss_cons (ps_if (PT.nox (pt_cmpR op_eq (pv 0) pe_int (nomark _)))
(pss_cons (ps_expr (pe_callC GB_unbroken hr rfl pass1S (pa_cons (pv 1) (pa_cons (pv 2) (pa_cons pe_int pa_nil))))) pss_never)
pss_never) pss_never)))))))), runx4 (N := ["which", "points", "ties", "tints"]) h (fun v_which v_points v_ties v_tints =>
(sjx_seq (rr := (rtV rUnit)) (ks1 := fun (s19 : Unit) => [Kd.vis rInt v_which, Kd.vis rInt v_points, Kd.vis (rL rII) v_ties, Kd.vis (rL rInt) v_tints])
(sj_if (ks' := fun (s19 : Unit) => [Kd.vis rInt v_which, Kd.vis rInt v_points, Kd.vis (rL rII) v_ties, Kd.vis (rL rInt) v_tints]) (et_cmp (ev_op o_eqI (ev_var (i := 0)) ev_int))
(sj_post (g := (fun (u20 : Unit) => (() : Unit)))
(sj_expr (EvR.ev (er_3 (ev_var (i := 1)) (ev_var (i := 2)) (en_lst (r := rBool) (ea_cons ev_bl ea_nil)).ev))) (fun u20 => (KWk.same (KWk.same (KWk.same (KWk.same KWk.nil))))))
(sj_next (KWk.same (KWk.same (KWk.same (KWk.same KWk.nil)))))) (fun s19 =>
(sjx_seq (rr := (rtV rUnit)) (ks1 := fun (s21 : Unit) => [Kd.vis rInt v_which, Kd.vis rInt v_points, Kd.vis (rL rII) v_ties, Kd.vis (rL rInt) v_tints])
(sj_if (ks' := fun (s21 : Unit) => [Kd.vis rInt v_which, Kd.vis rInt v_points, Kd.vis (rL rII) v_ties, Kd.vis (rL rInt) v_tints]) (et_cmp (ev_op o_eqI (ev_var (i := 0)) ev_int))
(sj_post (g := (fun (u22 : Unit) => (() : Unit)))
(sj_expr (EvR.ev (er_3 (ev_var (i := 1)) (ev_var (i := 2)) (en_lst (r := rBool) ea_nil).ev))) (fun u22 => (KWk.same (KWk.same (KWk.same (KWk.same KWk.nil))))))
(sj_next (KWk.same (KWk.same (KWk.same (KWk.same KWk.nil)))))) (fun s21 =>
(sjx_seq (rr := (rtV rUnit)) (ks1 := fun (s23 : Unit) => [Kd.vis rInt v_which, Kd.vis rInt v_points, Kd.vis (rL rII) v_ties, Kd.vis (rL rInt) v_tints])
(sj_if (ks' := fun (s23 : Unit) => [Kd.vis rInt v_which, Kd.vis rInt v_points, Kd.vis (rL rII) v_ties, Kd.vis (rL rInt) v_tints]) (et_cmp (ev_op o_eqI (ev_var (i := 0)) ev_int))
(sj_post (g := (fun (u24 : Unit) => (() : Unit)))
(sj_expr (EvN.ev (EvR.en (er_3 (ev_var (i := 1)) (ev_var (i := 2)) (ev_var (i := 3)))))) (fun u24 => (KWk.same (KWk.same (KWk.same (KWk.same KWk.nil))))))
(sj_next (KWk.same (KWk.same (KWk.same (KWk.same KWk.nil)))))) (fun s23 =>
(sjx_seq (rr := (rtV rUnit)) (ks1 := fun (s25 : Unit) => [Kd.vis rInt v_which, Kd.vis rInt v_points, Kd.vis (rL rII) v_ties, Kd.vis (rL rInt) v_tints])
(sj_if (ks' := fun (s25 : Unit) => [Kd.vis rInt v_which, Kd.vis rInt v_points, Kd.vis (rL rII) v_ties, Kd.vis (rL rInt) v_tints]) (et_cmp (ev_op o_eqI (ev_var (i := 0)) ev_int))
(sj_post (g := (fun (u26 : Unit) => (() : Unit)))
(sj_expr (EvN.ev (EvR.en (er_2 (ev_var (i := 1)) (ev_var (i := 2)))))) (fun u26 => (KWk.same (KWk.same (KWk.same (KWk.same KWk.nil))))))
(sj_next (KWk.same (KWk.same (KWk.same (KWk.same KWk.nil)))))) (fun s25 =>
(sjx_seq (rr := (rtV rUnit)) (ks1 := fun (s27 : Unit) => [Kd.vis rInt v_which, Kd.vis rInt v_points, Kd.vis (rL rII) v_ties, Kd.vis (rL rInt) v_tints])
(sj_if (ks' := fun (s27 : Unit) => [Kd.vis rInt v_which, Kd.vis rInt v_points, Kd.vis (rL rII) v_ties, Kd.vis (rL rInt) v_tints]) (et_cmp (ev_op o_eqI (ev_var (i := 0)) ev_int))
(sj_post (g := (fun (u28 : Unit) => (() : Unit)))
(sj_expr (EvR.ev (er_2 (ev_var (i := 1)) (ev_var (i := 2))))) (fun u28 => (KWk.same (KWk.same (KWk.same (KWk.same KWk.nil))))))
(sj_next (KWk.same (KWk.same (KWk.same (KWk.same KWk.nil)))))) (fun s27 =>
(sjx_seq (rr := (rtV rUnit)) (ks1 := fun (s29 : Unit) => [Kd.vis rInt v_which, Kd.vis rInt v_points, Kd.vis (rL rII) v_ties, Kd.vis (rL rInt) v_tints])
(sj_if (ks' := fun (s29 : Unit) => [Kd.vis rInt v_which, Kd.vis rInt v_points, Kd.vis (rL rII) v_ties, Kd.vis (rL rInt) v_tints]) (et_cmp (ev_op o_eqI (ev_var (i := 0)) ev_int))
(sj_post (g := (fun (u30 : Unit) => (() : Unit)))
(sj_expr (EvR.ev (er_3 (ev_var (i := 1)) (ev_var (i := 2)) ev_int))) (fun u30 => (KWk.same (KWk.same (KWk.same (KWk.same KWk.nil))))))
(sj_next (KWk.same (KWk.same (KWk.same (KWk.same KWk.nil)))))) (fun s29 =>
(sjx_seq (rr := (rtV rUnit)) (ks1 := fun (s31 : Unit) => [Kd.vis rInt v_which, Kd.vis rInt v_points, Kd.vis (rL rII) v_ties, Kd.vis (rL rInt) v_tints])
(sj_if (ks' := fun (s31 : Unit) => [Kd.vis rInt v_which, Kd.vis rInt v_points, Kd.vis (rL rII) v_ties, Kd.vis (rL rInt) v_tints]) (et_cmp (ev_op o_eqI (ev_var (i := 0)) ev_int))
(sj_post (g := (fun (u32 : Unit) => (() : Unit)))
(sj_expr (EvR.ev (er_3 (ev_var (i := 1)) (ev_var (i := 2)) ev_int))) (fun u32 => (KWk.same (KWk.same (KWk.same (KWk.same KWk.nil))))))
(sj_next (KWk.same (KWk.same (KWk.same (KWk.same KWk.nil)))))) (fun s31 =>
(sjx_first (sjx_if (et_cmp (ev_op o_eqI (ev_var (i := 0)) ev_int))
(sjx_first (sjx_expr (evx_3 (ev_var (i := 1)) (ev_var (i := 2)) ev_int) kx_none)) sjx_no)))))))))))))))))⟩)
(spx4_el (f := x__law_others_8) (g := x__law_others_9) (fun h => ⟨_, (pss_cons (PS.nox (ps_if (pt_cmpR op_eq (pv 0) pe_int (nomark _))
(pss_one (ps_expr (pe_callF G_goes_round hr rfl pass0 (pa_cons (pv 1) (pa_cons (pv 2) (pa_cons (pe_lst (pa_cons pe_bl pa_nil)) pa_nil))))))
pss_nil))
(pss_cons (PS.nox (ps_if (pt_cmpR op_eq (pv 0) pe_int (nomark _))
(pss_one (ps_expr (pe_callF G_ranks hr rfl pass0 (pa_cons (pv 1) (pa_cons (pv 2) (pa_cons (pe_lst pa_nil) pa_nil))))))
pss_nil))
(pss_cons (PS.nox (ps_if (pt_cmpR op_eq (pv 0) pe_int (nomark _))
(pss_one (ps_expr (pe_callF G_setting_of hr rfl pass0 (pa_cons (pv 1) (pa_cons (pv 2) (pa_cons (pv 3) pa_nil))))))
pss_nil))
(pss_cons (PS.nox (ps_if (pt_cmpR op_eq (pv 0) pe_int (nomark _))
(pss_one (ps_expr (pe_callF G_flattest hr rfl pass0 (pa_cons (pv 1) (pa_cons (pv 2) pa_nil)))))
pss_nil))
(pss_cons (PS.nox (ps_if (pt_cmpR op_eq (pv 0) pe_int (nomark _))
(pss_one (ps_expr (pe_callF G_settings hr rfl pass0 (pa_cons (pv 1) (pa_cons (pv 2) pa_nil)))))
pss_nil))
(pss_cons (PS.nox (ps_if (pt_cmpR op_eq (pv 0) pe_int (nomark _))
(pss_one (ps_expr (pe_callF G_from_spring hr rfl pass0 (pa_cons (pv 1) (pa_cons (pv 2) (pa_cons pe_int pa_nil))))))
pss_nil))
(pss_cons (PS.nox (ps_if (pt_cmpR op_eq (pv 0) pe_int (nomark _))
(pss_one (ps_expr (pe_callF G_pairs hr rfl pass0 (pa_cons (pv 1) (pa_cons (pv 2) (pa_cons pe_int pa_nil))))))
pss_nil))
(pss_cons (PS.nox (ps_if (pt_cmpR op_eq (pv 0) pe_int (nomark _))
(pss_one (ps_expr (pe_callF G_unbroken hr rfl pass0 (pa_cons (pv 1) (pa_cons (pv 2) (pa_cons pe_int pa_nil))))))
pss_nil))
(pss_cons (ps_if (PT.nox (pt_cmpR op_eq (pv 0) pe_int (nomark _)))
(pss_cons (ps_expr (pe_callC GB_cut hr rfl pass1S (pa_cons (pv 1) (pa_cons (pv 2) (pa_cons (pe_tup (pa_cons pe_int (pa_cons pe_int pa_nil))) pa_nil))))) pss_never)
pss_never) pss_never))))))))), runx4 (N := ["which", "points", "ties", "tints"]) h (fun v_which v_points v_ties v_tints =>
(sjx_seq (rr := (rtV rUnit)) (ks1 := fun (s19 : Unit) => [Kd.vis rInt v_which, Kd.vis rInt v_points, Kd.vis (rL rII) v_ties, Kd.vis (rL rInt) v_tints])
(sj_if (ks' := fun (s19 : Unit) => [Kd.vis rInt v_which, Kd.vis rInt v_points, Kd.vis (rL rII) v_ties, Kd.vis (rL rInt) v_tints]) (et_cmp (ev_op o_eqI (ev_var (i := 0)) ev_int))
(sj_post (g := (fun (u20 : Unit) => (() : Unit)))
(sj_expr (EvR.ev (er_3 (ev_var (i := 1)) (ev_var (i := 2)) (en_lst (r := rBool) (ea_cons ev_bl ea_nil)).ev))) (fun u20 => (KWk.same (KWk.same (KWk.same (KWk.same KWk.nil))))))
(sj_next (KWk.same (KWk.same (KWk.same (KWk.same KWk.nil)))))) (fun s19 =>
(sjx_seq (rr := (rtV rUnit)) (ks1 := fun (s21 : Unit) => [Kd.vis rInt v_which, Kd.vis rInt v_points, Kd.vis (rL rII) v_ties, Kd.vis (rL rInt) v_tints])
(sj_if (ks' := fun (s21 : Unit) => [Kd.vis rInt v_which, Kd.vis rInt v_points, Kd.vis (rL rII) v_ties, Kd.vis (rL rInt) v_tints]) (et_cmp (ev_op o_eqI (ev_var (i := 0)) ev_int))
(sj_post (g := (fun (u22 : Unit) => (() : Unit)))
(sj_expr (EvR.ev (er_3 (ev_var (i := 1)) (ev_var (i := 2)) (en_lst (r := rBool) ea_nil).ev))) (fun u22 => (KWk.same (KWk.same (KWk.same (KWk.same KWk.nil))))))
(sj_next (KWk.same (KWk.same (KWk.same (KWk.same KWk.nil)))))) (fun s21 =>
(sjx_seq (rr := (rtV rUnit)) (ks1 := fun (s23 : Unit) => [Kd.vis rInt v_which, Kd.vis rInt v_points, Kd.vis (rL rII) v_ties, Kd.vis (rL rInt) v_tints])
(sj_if (ks' := fun (s23 : Unit) => [Kd.vis rInt v_which, Kd.vis rInt v_points, Kd.vis (rL rII) v_ties, Kd.vis (rL rInt) v_tints]) (et_cmp (ev_op o_eqI (ev_var (i := 0)) ev_int))
(sj_post (g := (fun (u24 : Unit) => (() : Unit)))
(sj_expr (EvN.ev (EvR.en (er_3 (ev_var (i := 1)) (ev_var (i := 2)) (ev_var (i := 3)))))) (fun u24 => (KWk.same (KWk.same (KWk.same (KWk.same KWk.nil))))))
(sj_next (KWk.same (KWk.same (KWk.same (KWk.same KWk.nil)))))) (fun s23 =>
(sjx_seq (rr := (rtV rUnit)) (ks1 := fun (s25 : Unit) => [Kd.vis rInt v_which, Kd.vis rInt v_points, Kd.vis (rL rII) v_ties, Kd.vis (rL rInt) v_tints])
(sj_if (ks' := fun (s25 : Unit) => [Kd.vis rInt v_which, Kd.vis rInt v_points, Kd.vis (rL rII) v_ties, Kd.vis (rL rInt) v_tints]) (et_cmp (ev_op o_eqI (ev_var (i := 0)) ev_int))
(sj_post (g := (fun (u26 : Unit) => (() : Unit)))
(sj_expr (EvN.ev (EvR.en (er_2 (ev_var (i := 1)) (ev_var (i := 2)))))) (fun u26 => (KWk.same (KWk.same (KWk.same (KWk.same KWk.nil))))))
(sj_next (KWk.same (KWk.same (KWk.same (KWk.same KWk.nil)))))) (fun s25 =>
(sjx_seq (rr := (rtV rUnit)) (ks1 := fun (s27 : Unit) => [Kd.vis rInt v_which, Kd.vis rInt v_points, Kd.vis (rL rII) v_ties, Kd.vis (rL rInt) v_tints])
(sj_if (ks' := fun (s27 : Unit) => [Kd.vis rInt v_which, Kd.vis rInt v_points, Kd.vis (rL rII) v_ties, Kd.vis (rL rInt) v_tints]) (et_cmp (ev_op o_eqI (ev_var (i := 0)) ev_int))
(sj_post (g := (fun (u28 : Unit) => (() : Unit)))
(sj_expr (EvR.ev (er_2 (ev_var (i := 1)) (ev_var (i := 2))))) (fun u28 => (KWk.same (KWk.same (KWk.same (KWk.same KWk.nil))))))
(sj_next (KWk.same (KWk.same (KWk.same (KWk.same KWk.nil)))))) (fun s27 =>
(sjx_seq (rr := (rtV rUnit)) (ks1 := fun (s29 : Unit) => [Kd.vis rInt v_which, Kd.vis rInt v_points, Kd.vis (rL rII) v_ties, Kd.vis (rL rInt) v_tints])
(sj_if (ks' := fun (s29 : Unit) => [Kd.vis rInt v_which, Kd.vis rInt v_points, Kd.vis (rL rII) v_ties, Kd.vis (rL rInt) v_tints]) (et_cmp (ev_op o_eqI (ev_var (i := 0)) ev_int))
(sj_post (g := (fun (u30 : Unit) => (() : Unit)))
(sj_expr (EvR.ev (er_3 (ev_var (i := 1)) (ev_var (i := 2)) ev_int))) (fun u30 => (KWk.same (KWk.same (KWk.same (KWk.same KWk.nil))))))
(sj_next (KWk.same (KWk.same (KWk.same (KWk.same KWk.nil)))))) (fun s29 =>
(sjx_seq (rr := (rtV rUnit)) (ks1 := fun (s31 : Unit) => [Kd.vis rInt v_which, Kd.vis rInt v_points, Kd.vis (rL rII) v_ties, Kd.vis (rL rInt) v_tints])
(sj_if (ks' := fun (s31 : Unit) => [Kd.vis rInt v_which, Kd.vis rInt v_points, Kd.vis (rL rII) v_ties, Kd.vis (rL rInt) v_tints]) (et_cmp (ev_op o_eqI (ev_var (i := 0)) ev_int))
(sj_post (g := (fun (u32 : Unit) => (() : Unit)))
(sj_expr (EvR.ev (er_3 (ev_var (i := 1)) (ev_var (i := 2)) ev_int))) (fun u32 => (KWk.same (KWk.same (KWk.same (KWk.same KWk.nil))))))
(sj_next (KWk.same (KWk.same (KWk.same (KWk.same KWk.nil)))))) (fun s31 =>
(sjx_seq (rr := (rtV rUnit)) (ks1 := fun (s33 : Unit) => [Kd.vis rInt v_which, Kd.vis rInt v_points, Kd.vis (rL rII) v_ties, Kd.vis (rL rInt) v_tints])
(sj_if (ks' := fun (s33 : Unit) => [Kd.vis rInt v_which, Kd.vis rInt v_points, Kd.vis (rL rII) v_ties, Kd.vis (rL rInt) v_tints]) (et_cmp (ev_op o_eqI (ev_var (i := 0)) ev_int))
(sj_post (g := (fun (u34 : Unit) => (() : Unit)))
(sj_expr (EvR.ev (er_3 (ev_var (i := 1)) (ev_var (i := 2)) ev_int))) (fun u34 => (KWk.same (KWk.same (KWk.same (KWk.same KWk.nil))))))
(sj_next (KWk.same (KWk.same (KWk.same (KWk.same KWk.nil)))))) (fun s33 =>
(sjx_first (sjx_if (et_cmp (ev_op o_eqI (ev_var (i := 0)) ev_int))
(sjx_first (sjx_expr (evx_3 (ev_var (i := 1)) (ev_var (i := 2)) (ev_pair ev_int ev_int)) kx_none)) sjx_no)))))))))))))))))))⟩)
(fun h => ⟨_, (pss_cons (PS.nox (ps_if (pt_cmpR op_eq (pv 0) pe_int (nomark _))
(pss_one (ps_expr (pe_callF G_goes_round hr rfl pass0 (pa_cons (pv 1) (pa_cons (pv 2) (pa_cons (pe_lst (pa_cons pe_bl pa_nil)) pa_nil))))))
pss_nil))
(pss_cons (PS.nox (ps_if (pt_cmpR op_eq (pv 0) pe_int (nomark _))
(pss_one (ps_expr (pe_callF G_ranks hr rfl pass0 (pa_cons (pv 1) (pa_cons (pv 2) (pa_cons (pe_lst pa_nil) pa_nil))))))
pss_nil))
(pss_cons (PS.nox (ps_if (pt_cmpR op_eq (pv 0) pe_int (nomark _))
(pss_one (ps_expr (pe_callF G_setting_of hr rfl pass0 (pa_cons (pv 1) (pa_cons (pv 2) (pa_cons (pv 3) pa_nil))))))
pss_nil))
(pss_cons (PS.nox (ps_if (pt_cmpR op_eq (pv 0) pe_int (nomark _))
(pss_one (ps_expr (pe_callF G_flattest hr rfl pass0 (pa_cons (pv 1) (pa_cons (pv 2) pa_nil)))))
pss_nil))
(pss_cons (PS.nox (ps_if (pt_cmpR op_eq (pv 0) pe_int (nomark _))
(pss_one (ps_expr (pe_callF G_settings hr rfl pass0 (pa_cons (pv 1) (pa_cons (pv 2) pa_nil)))))
pss_nil))
(pss_cons (PS.nox (ps_if (pt_cmpR op_eq (pv 0) pe_int (nomark _))
(pss_one (ps_expr (pe_callF G_from_spring hr rfl pass0 (pa_cons (pv 1) (pa_cons (pv 2) (pa_cons pe_int pa_nil))))))
pss_nil))
(pss_cons (PS.nox (ps_if (pt_cmpR op_eq (pv 0) pe_int (nomark _))
(pss_one (ps_expr (pe_callF G_pairs hr rfl pass0 (pa_cons (pv 1) (pa_cons (pv 2) (pa_cons pe_int pa_nil))))))
pss_nil))
(pss_cons (PS.nox (ps_if (pt_cmpR op_eq (pv 0) pe_int (nomark _))
(pss_one (ps_expr (pe_callF G_unbroken hr rfl pass0 (pa_cons (pv 1) (pa_cons (pv 2) (pa_cons pe_int pa_nil))))))
pss_nil))
(pss_cons (PS.nox (ps_if (pt_cmpR op_eq (pv 0) pe_int (nomark _))
(pss_one (ps_expr (pe_callF G_cut hr rfl pass0 (pa_cons (pv 1) (pa_cons (pv 2) (pa_cons (pe_tup (pa_cons pe_int (pa_cons pe_int pa_nil))) pa_nil))))))
pss_nil))
(pss_cons (ps_if (PT.nox (pt_cmpR op_eq (pv 0) pe_int (nomark _)))
(pss_cons (ps_expr (pe_callC GB_merged hr rfl pass1S (pa_cons (pv 1) (pa_cons (pv 2) (pa_cons (pe_tup (pa_cons pe_int (pa_cons pe_int pa_nil))) pa_nil))))) pss_never)
pss_never) pss_never)))))))))), runx4 (N := ["which", "points", "ties", "tints"]) h (fun v_which v_points v_ties v_tints =>
(sjx_seq (rr := (rtV rUnit)) (ks1 := fun (s19 : Unit) => [Kd.vis rInt v_which, Kd.vis rInt v_points, Kd.vis (rL rII) v_ties, Kd.vis (rL rInt) v_tints])
(sj_if (ks' := fun (s19 : Unit) => [Kd.vis rInt v_which, Kd.vis rInt v_points, Kd.vis (rL rII) v_ties, Kd.vis (rL rInt) v_tints]) (et_cmp (ev_op o_eqI (ev_var (i := 0)) ev_int))
(sj_post (g := (fun (u20 : Unit) => (() : Unit)))
(sj_expr (EvR.ev (er_3 (ev_var (i := 1)) (ev_var (i := 2)) (en_lst (r := rBool) (ea_cons ev_bl ea_nil)).ev))) (fun u20 => (KWk.same (KWk.same (KWk.same (KWk.same KWk.nil))))))
(sj_next (KWk.same (KWk.same (KWk.same (KWk.same KWk.nil)))))) (fun s19 =>
(sjx_seq (rr := (rtV rUnit)) (ks1 := fun (s21 : Unit) => [Kd.vis rInt v_which, Kd.vis rInt v_points, Kd.vis (rL rII) v_ties, Kd.vis (rL rInt) v_tints])
(sj_if (ks' := fun (s21 : Unit) => [Kd.vis rInt v_which, Kd.vis rInt v_points, Kd.vis (rL rII) v_ties, Kd.vis (rL rInt) v_tints]) (et_cmp (ev_op o_eqI (ev_var (i := 0)) ev_int))
(sj_post (g := (fun (u22 : Unit) => (() : Unit)))
(sj_expr (EvR.ev (er_3 (ev_var (i := 1)) (ev_var (i := 2)) (en_lst (r := rBool) ea_nil).ev))) (fun u22 => (KWk.same (KWk.same (KWk.same (KWk.same KWk.nil))))))
(sj_next (KWk.same (KWk.same (KWk.same (KWk.same KWk.nil)))))) (fun s21 =>
(sjx_seq (rr := (rtV rUnit)) (ks1 := fun (s23 : Unit) => [Kd.vis rInt v_which, Kd.vis rInt v_points, Kd.vis (rL rII) v_ties, Kd.vis (rL rInt) v_tints])
(sj_if (ks' := fun (s23 : Unit) => [Kd.vis rInt v_which, Kd.vis rInt v_points, Kd.vis (rL rII) v_ties, Kd.vis (rL rInt) v_tints]) (et_cmp (ev_op o_eqI (ev_var (i := 0)) ev_int))
(sj_post (g := (fun (u24 : Unit) => (() : Unit)))
(sj_expr (EvN.ev (EvR.en (er_3 (ev_var (i := 1)) (ev_var (i := 2)) (ev_var (i := 3)))))) (fun u24 => (KWk.same (KWk.same (KWk.same (KWk.same KWk.nil))))))
(sj_next (KWk.same (KWk.same (KWk.same (KWk.same KWk.nil)))))) (fun s23 =>
(sjx_seq (rr := (rtV rUnit)) (ks1 := fun (s25 : Unit) => [Kd.vis rInt v_which, Kd.vis rInt v_points, Kd.vis (rL rII) v_ties, Kd.vis (rL rInt) v_tints])
(sj_if (ks' := fun (s25 : Unit) => [Kd.vis rInt v_which, Kd.vis rInt v_points, Kd.vis (rL rII) v_ties, Kd.vis (rL rInt) v_tints]) (et_cmp (ev_op o_eqI (ev_var (i := 0)) ev_int))
(sj_post (g := (fun (u26 : Unit) => (() : Unit)))
(sj_expr (EvN.ev (EvR.en (er_2 (ev_var (i := 1)) (ev_var (i := 2)))))) (fun u26 => (KWk.same (KWk.same (KWk.same (KWk.same KWk.nil))))))
(sj_next (KWk.same (KWk.same (KWk.same (KWk.same KWk.nil)))))) (fun s25 =>
(sjx_seq (rr := (rtV rUnit)) (ks1 := fun (s27 : Unit) => [Kd.vis rInt v_which, Kd.vis rInt v_points, Kd.vis (rL rII) v_ties, Kd.vis (rL rInt) v_tints])
(sj_if (ks' := fun (s27 : Unit) => [Kd.vis rInt v_which, Kd.vis rInt v_points, Kd.vis (rL rII) v_ties, Kd.vis (rL rInt) v_tints]) (et_cmp (ev_op o_eqI (ev_var (i := 0)) ev_int))
(sj_post (g := (fun (u28 : Unit) => (() : Unit)))
(sj_expr (EvR.ev (er_2 (ev_var (i := 1)) (ev_var (i := 2))))) (fun u28 => (KWk.same (KWk.same (KWk.same (KWk.same KWk.nil))))))
(sj_next (KWk.same (KWk.same (KWk.same (KWk.same KWk.nil)))))) (fun s27 =>
(sjx_seq (rr := (rtV rUnit)) (ks1 := fun (s29 : Unit) => [Kd.vis rInt v_which, Kd.vis rInt v_points, Kd.vis (rL rII) v_ties, Kd.vis (rL rInt) v_tints])
(sj_if (ks' := fun (s29 : Unit) => [Kd.vis rInt v_which, Kd.vis rInt v_points, Kd.vis (rL rII) v_ties, Kd.vis (rL rInt) v_tints]) (et_cmp (ev_op o_eqI (ev_var (i := 0)) ev_int))
(sj_post (g := (fun (u30 : Unit) => (() : Unit)))
(sj_expr (EvR.ev (er_3 (ev_var (i := 1)) (ev_var (i := 2)) ev_int))) (fun u30 => (KWk.same (KWk.same (KWk.same (KWk.same KWk.nil))))))
(sj_next (KWk.same (KWk.same (KWk.same (KWk.same KWk.nil)))))) (fun s29 =>
(sjx_seq (rr := (rtV rUnit)) (ks1 := fun (s31 : Unit) => [Kd.vis rInt v_which, Kd.vis rInt v_points, Kd.vis (rL rII) v_ties, Kd.vis (rL rInt) v_tints])
(sj_if (ks' := fun (s31 : Unit) => [Kd.vis rInt v_which, Kd.vis rInt v_points, Kd.vis (rL rII) v_ties, Kd.vis (rL rInt) v_tints]) (et_cmp (ev_op o_eqI (ev_var (i := 0)) ev_int))
(sj_post (g := (fun (u32 : Unit) => (() : Unit)))
(sj_expr (EvR.ev (er_3 (ev_var (i := 1)) (ev_var (i := 2)) ev_int))) (fun u32 => (KWk.same (KWk.same (KWk.same (KWk.same KWk.nil))))))
(sj_next (KWk.same (KWk.same (KWk.same (KWk.same KWk.nil)))))) (fun s31 =>
(sjx_seq (rr := (rtV rUnit)) (ks1 := fun (s33 : Unit) => [Kd.vis rInt v_which, Kd.vis rInt v_points, Kd.vis (rL rII) v_ties, Kd.vis (rL rInt) v_tints])
(sj_if (ks' := fun (s33 : Unit) => [Kd.vis rInt v_which, Kd.vis rInt v_points, Kd.vis (rL rII) v_ties, Kd.vis (rL rInt) v_tints]) (et_cmp (ev_op o_eqI (ev_var (i := 0)) ev_int))
(sj_post (g := (fun (u34 : Unit) => (() : Unit)))
(sj_expr (EvR.ev (er_3 (ev_var (i := 1)) (ev_var (i := 2)) ev_int))) (fun u34 => (KWk.same (KWk.same (KWk.same (KWk.same KWk.nil))))))
(sj_next (KWk.same (KWk.same (KWk.same (KWk.same KWk.nil)))))) (fun s33 =>
(sjx_seq (rr := (rtV rUnit)) (ks1 := fun (s35 : Unit) => [Kd.vis rInt v_which, Kd.vis rInt v_points, Kd.vis (rL rII) v_ties, Kd.vis (rL rInt) v_tints])
(sj_if (ks' := fun (s35 : Unit) => [Kd.vis rInt v_which, Kd.vis rInt v_points, Kd.vis (rL rII) v_ties, Kd.vis (rL rInt) v_tints]) (et_cmp (ev_op o_eqI (ev_var (i := 0)) ev_int))
(sj_post (g := (fun (u36 : Unit) => (() : Unit)))
(sj_expr (EvN.ev (EvR.en (er_3 (ev_var (i := 1)) (ev_var (i := 2)) (ev_pair ev_int ev_int))))) (fun u36 => (KWk.same (KWk.same (KWk.same (KWk.same KWk.nil))))))
(sj_next (KWk.same (KWk.same (KWk.same (KWk.same KWk.nil)))))) (fun s35 =>
(sjx_first (sjx_if (et_cmp (ev_op o_eqI (ev_var (i := 0)) ev_int))
(sjx_first (sjx_expr (evx_3 (ev_var (i := 1)) (ev_var (i := 2)) (ev_pair ev_int ev_int)) kx_none)) sjx_no)))))))))))))))))))))⟩)))))))))) h

noncomputable abbrev sp_law (K : PySem.W.Frag) : Sp := sp1 (rLs rInt) (rtV rBool) m_law K
theorem fk_law (B : Blt K mg) (G__law_cell_at : Fn P w K mg base CX0 1 "_law_cell_at" ["script", "k"] (sp__law_cell_at K)) (G__law_first_eight : Fn P w K mg base CX0 6 "_law_first_eight" ["which", "points", "ties"] (sp__law_first_eight K)) (G__law_next : Fn P w K mg base CX0 1 "_law_next" ["seed"] (sp__law_next K)) (G__law_others : Fn P w K mg base CX0 7 "_law_others" ["which", "points", "ties", "tints"] (sp__law_others K)) (G__law_spoilt : Fn P w K mg base CX0 1 "_law_spoilt" ["ties", "way", "cell"] (sp__law_spoilt K)) (G__law_web_by : Fn P w K mg base CX0 2 "_law_web_by" ["script", "k", "most", "cap"] (sp__law_web_by K)) (GB__law_first_eight : Fc P w K mg base (CX1 P w) 6 "_law_first_eight" (spB (sp__law_first_eight K) (spx__law_first_eight K mg))) (GB__law_others : Fc P w K mg base (CX1 P w) 7 "_law_others" (spB (sp__law_others K) (spx__law_others K mg))) {e : Addr} {ed : FuncData} (F : Fun K "law" "law" s_law e ed) : FnOk P w K mg base CX0 8 e ed ["script"] (sp_law K) := by
  obtain ⟨W0, mW, eW, xall⟩ := B.x_all
  refine F.ok sc_law (fun vs H Q E h => len1 h) (fun cdv A outer s H vs Q E hr h => ?_)
  exact ⟨_, (pss_cons (ps_asg (pe_callF G__law_web_by hr rfl pass0 (pa_cons (pe_op op_cat (pe_lst (pa_cons (pe_op op_add pe_int (pe_op op_mod (pe_callF G__law_cell_at hr rfl pass0 (pa_cons (pv 0) (pa_cons pe_int pa_nil))) pe_int)) pa_nil)) (pe_slice sl_list (pv 0) (po_some pe_int) po_none)) (pa_cons pe_int (pa_cons pe_int (pa_cons pe_int pa_nil))))) (pg_tup rfl (pgs_cons (pg_name (i := 1) sc_law.nd rfl (Or.inl rfl)) (pgs_cons (pg_name (i := 2) sc_law.nd rfl (Or.inl rfl)) pgs_nil))))
(pss_cons (ps_if (pt_cmpR op_eq (pe_callB call_len_seq rfl B.b_len PySem.boot_len (pa_cons (pv 2) pa_nil)) pe_int (nomark _))
(pss_one (ps_set (i := 2) sc_law.nd rfl (Or.inl rfl) (pe_lst (pa_cons (pe_tup (pa_cons pe_int (pa_cons pe_int pa_nil))) pa_nil))))
pss_nil)
(pss_cons (ps_set (i := 3) sc_law.nd rfl (Or.inl rfl) (pe_op op_mod (pe_callF G__law_cell_at hr rfl pass0 (pa_cons (pv 0) (pa_cons pe_int pa_nil))) pe_int))
(pss_cons (ps_if (pt_cmpR op_lt (pv 3) pe_int (nomark _))
(pss_one (ps_set (i := 2) sc_law.nd rfl (Or.inl rfl) (pe_callF G__law_spoilt hr rfl pass0 (pa_cons (pv 2) (pa_cons (pv 3) (pa_cons (pe_callF G__law_next hr rfl pass0 (pa_cons (pe_callF G__law_cell_at hr rfl pass0 (pa_cons (pv 0) (pa_cons pe_int pa_nil))) pa_nil)) pa_nil))))))
(pss_cons (ps_set (i := 4) sc_law.nd rfl (Or.inl rfl) (pe_op op_mod (pe_callF G__law_cell_at hr rfl pass0 (pa_cons (pv 0) (pa_cons pe_int pa_nil))) pe_int))
(pss_cons (ps_if (pt_cmpR op_eq (pe_op op_mod (pe_op op_fdivB (pe_callF G__law_cell_at hr rfl pass0 (pa_cons (pv 0) (pa_cons pe_int pa_nil))) pe_int) pe_int) pe_int (nomark _))
(pss_one (ps_set (i := 2) sc_law.nd rfl (Or.inl rfl) (pe_lst pa_nil)))
pss_nil)
(pss_one (ps_set (i := 1) sc_law.nd rfl (Or.inl rfl) (pe_ix (ix_list) (pe_lst (pa_cons (pe_un un_neg pe_int) (pa_cons pe_int (pa_cons (pe_op op_sub (pe_un un_neg pe_int) (pv 4)) (pa_cons (pe_op op_add pe_int (pv 4)) pa_nil))))) (pe_op op_mod (pe_callF G__law_cell_at hr rfl pass0 (pa_cons (pv 0) (pa_cons pe_int pa_nil))) pe_int) (fun _ _ => rfl)))))))
(pss_cons (ps_set (i := 5) sc_law.nd rfl (Or.inl rfl) (pe_op op_mod (pe_callF G__law_cell_at hr rfl pass0 (pa_cons (pv 0) (pa_cons pe_int pa_nil))) pe_int))
(pss_cons (ps_setComp (iy := 6) (own := ["k"]) (fr := []) sc_law.nd rfl (Or.inl rfl) rfl (pi_range1 rfl B.b_range (pa_cons (pe_callB (call_max2 rfl) rfl B.b_max PyProof.Rows.boot_max (pa_cons pe_int (pa_cons (pv 1) pa_nil))) pa_nil)) (fun s3 H3 fp => (pg_name (i := 0) (show List.Nodup (["k"] : List Str) by decide +kernel) rfl (Or.inl rfl) (Or.inr rfl))) (fun s3 H3 fp => pif_nil) (fun s3 H3 fp => pe_int))
(pss_cons (ps_set (i := 7) sc_law.nd rfl (Or.inl rfl) (pe_callTy call_list_of rfl B.b_list PyProof.Rows.boot_list (pa_cons (pv 2) pa_nil)))
(pss_cons (ps_try (W := W0) (i := 8) (Φ := XPs K mg W0 (["GoesRound", "NoDyeing", "NoNote", "NoSetting", "NoTie", "NoWeb"] : List Str) (["NoWeb"] : List Str)) XPs.cat (fun pn xe E pas =>
(pss_cons (ps_expr (pe_callC GB__law_first_eight hr rfl pas (pa_cons (pv 5) (pa_cons (pv 1) (pa_cons (pv 7) pa_nil)))))
(pss_one (ps_expr (pe_callC GB__law_others hr rfl pas (pa_cons (pv 5) (pa_cons (pv 1) (pa_cons (pv 7) (pa_cons (pv 6) pa_nil))))))))) (fun a C oe pn zx hc hp =>
(pss_cons (ps_set (i := 9) sc_law.nd rfl (Or.inl rfl) (pe_or (pe_isx (K := K) (mg := mg) rfl rfl hp hc zx (.head _) B.b_isinstance rfl rfl (pv 8)) (pe_or (pe_isx (K := K) (mg := mg) rfl rfl hp hc zx (.tail _ (.head _)) B.b_isinstance rfl rfl (pv 8)) (pe_one (pe_isx (K := K) (mg := mg) rfl rfl hp hc zx (.tail _ (.tail _ (.head _))) B.b_isinstance rfl rfl (pv 8))))))
(pss_cons (ps_set (i := 9) sc_law.nd rfl (Or.inl rfl) (pe_or (pv 9) (pe_or (pe_isx (K := K) (mg := mg) rfl rfl hp hc zx (.tail _ (.tail _ (.tail _ (.head _)))) B.b_isinstance rfl rfl (pv 8)) (pe_one (pe_isx (K := K) (mg := mg) rfl rfl hp hc zx (.tail _ (.tail _ (.tail _ (.tail _ (.head _))))) B.b_isinstance rfl rfl (pv 8))))))
(pss_one (ps_ret (pe_and (pe_isx (K := K) (mg := mg) rfl rfl hp hc zx (.tail _ (.tail _ (.tail _ (.tail _ (.tail _ (.head _)))))) B.b_isinstance rfl rfl (pv 8)) (pe_and (pe_isv (K := K) (mg := mg) rfl rfl hp hc zx B.b_isinstance B.b_ValueError rfl rfl (pv 8)) (pe_and (pe_not (pv 9)) (pe_one (pe_cmpR (op_eqLK (K := K) rfl eqc_ii (hr.uni (by decide))) (pv 7) (pv 2) (nomark _))))))))))) mW eW rfl sc_law.nd rfl rfl rfl rfl)
(pss_one (ps_ret pe_bl)))))))))), run1 (N := ["script", "points", "ties", "way", "far", "which", "tints", "handed", "e", "other"]) (m := b_law) (ks' := fun _ _ => [Kd.any, Kd.any, Kd.any, Kd.any, Kd.any, Kd.any, Kd.any, Kd.any, Kd.any, Kd.any]) h (fun _ => rfl) (fun v_script =>
(sj_seq (ks1 := fun (v_1 : (Int × (List (Int × Int)))) => [Kd.vis (rLs rInt) v_script, Kd.vis rInt v_1.1, Kd.vis (rL rII) v_1.2, Kd.any, Kd.any, Kd.any, Kd.any, Kd.any, Kd.any, Kd.any])
(sj_asg (EvR.ev (er_4 (en_cat (EvN.ce (en_lst (r := rInt) (ea_cons (ev_op o_int0 ev_int (ev_op o_mod (EvR.ev (er_2 (ev_var (i := 0)) ev_int)) ev_int)) ea_nil))) (EvN.ce (en_slice (ev_var (i := 0)).slo (eo_some ev_int) eo_none))).ev.ls ev_int ev_int ev_int)) gj_pair) (fun v_1 =>
(sj_seq (ks1 := fun (s2 : ((List (Int × Int)))) => [Kd.vis (rLs rInt) v_script, Kd.vis rInt v_1.1, Kd.vis (rL rII) s2, Kd.any, Kd.any, Kd.any, Kd.any, Kd.any, Kd.any, Kd.any])
(sj_if (ks' := fun (s2 : ((List (Int × Int)))) => [Kd.vis (rLs rInt) v_script, Kd.vis rInt v_1.1, Kd.vis (rL rII) s2, Kd.any, Kd.any, Kd.any, Kd.any, Kd.any, Kd.any, Kd.any]) (et_cmp (ev_op o_eqI (ev_cb1 o_len (ev_var (i := 2)).lo) ev_int))
(sj_post (g := (fun (v_ties_3 : (List (Int × Int))) => (v_ties_3 : ((List (Int × Int))))))
(sj_set (en_lst (r := rII) (ea_cons (ev_pair ev_int ev_int) ea_nil)).ev) (fun v_ties_3 => (KWk.same (KWk.same (KWk.same (KWk.any (KWk.any (KWk.any (KWk.any (KWk.any (KWk.any (KWk.any KWk.nil))))))))))))
(sj_next (KWk.same (KWk.same (KWk.same (KWk.any (KWk.any (KWk.any (KWk.any (KWk.any (KWk.any (KWk.any KWk.nil)))))))))))) (fun s2 =>
(sj_seq (ks1 := fun (v_way_4 : Int) => [Kd.vis (rLs rInt) v_script, Kd.vis rInt v_1.1, Kd.vis (rL rII) s2, Kd.vis rInt v_way_4, Kd.any, Kd.any, Kd.any, Kd.any, Kd.any, Kd.any])
(sj_set (ev_op o_mod (EvR.ev (er_2 (ev_var (i := 0)) ev_int)) ev_int)) (fun v_way_4 =>
(sj_seq (ks1 := fun (s5 : (Int × (List (Int × Int)))) => [Kd.vis (rLs rInt) v_script, Kd.vis rInt s5.1, Kd.vis (rL rII) s5.2, Kd.vis rInt v_way_4, Kd.any, Kd.any, Kd.any, Kd.any, Kd.any, Kd.any])
(sj_if (ks' := fun (s5 : (Int × (List (Int × Int)))) => [Kd.vis (rLs rInt) v_script, Kd.vis rInt s5.1, Kd.vis (rL rII) s5.2, Kd.vis rInt v_way_4, Kd.any, Kd.any, Kd.any, Kd.any, Kd.any, Kd.any]) (et_cmp (ev_op (o_cmp0 (g := fun i j => decide (i < j))) (ev_var (i := 3)) ev_int))
(sj_post (g := (fun (v_ties_6 : (List (Int × Int))) => ((v_1.1, v_ties_6) : (Int × (List (Int × Int))))))
(sj_set (EvR.en (er_3 (ev_var (i := 2)) (ev_var (i := 3)) (EvR.ev (er_1 (EvR.ev (er_2 (ev_var (i := 0)) ev_int)))))).ev) (fun v_ties_6 => (KWk.same (KWk.same (KWk.same (KWk.same (KWk.any (KWk.any (KWk.any (KWk.any (KWk.any (KWk.any KWk.nil))))))))))))
(sj_seq (ks1 := fun (v_far_7 : Int) => [Kd.vis (rLs rInt) v_script, Kd.vis rInt v_1.1, Kd.vis (rL rII) s2, Kd.vis rInt v_way_4, Kd.vis rInt v_far_7, Kd.any, Kd.any, Kd.any, Kd.any, Kd.any])
(sj_set (ev_op o_mod (EvR.ev (er_2 (ev_var (i := 0)) ev_int)) ev_int)) (fun v_far_7 =>
(sj_seq (ks1 := fun (s8 : ((List (Int × Int)))) => [Kd.vis (rLs rInt) v_script, Kd.vis rInt v_1.1, Kd.vis (rL rII) s8, Kd.vis rInt v_way_4, Kd.vis rInt v_far_7, Kd.any, Kd.any, Kd.any, Kd.any, Kd.any])
(sj_if (ks' := fun (s8 : ((List (Int × Int)))) => [Kd.vis (rLs rInt) v_script, Kd.vis rInt v_1.1, Kd.vis (rL rII) s8, Kd.vis rInt v_way_4, Kd.vis rInt v_far_7, Kd.any, Kd.any, Kd.any, Kd.any, Kd.any]) (et_cmp (ev_op o_eqI (ev_op o_mod (ev_op o_div (EvR.ev (er_2 (ev_var (i := 0)) ev_int)) ev_int) ev_int) ev_int))
(sj_post (g := (fun (v_ties_9 : (List (Int × Int))) => (v_ties_9 : ((List (Int × Int))))))
(sj_set (en_lst (r := rII) ea_nil).ev) (fun v_ties_9 => (KWk.same (KWk.same (KWk.same (KWk.same (KWk.same (KWk.any (KWk.any (KWk.any (KWk.any (KWk.any KWk.nil))))))))))))
(sj_next (KWk.same (KWk.same (KWk.same (KWk.same (KWk.same (KWk.any (KWk.any (KWk.any (KWk.any (KWk.any KWk.nil)))))))))))) (fun s8 =>
(sj_post (g := (fun (v_points_10 : Int) => ((v_points_10, s8) : (Int × (List (Int × Int))))))
(sj_set (ev_op o_ix (en_lst (r := rInt) (ea_cons (ev_un o_neg ev_int) (ea_cons ev_int (ea_cons (ev_op o_int0 (ev_un o_neg ev_int) (ev_var (i := 4))) (ea_cons (ev_op o_int0 ev_int (ev_var (i := 4))) ea_nil))))).ev.lo (ev_op o_mod (EvR.ev (er_2 (ev_var (i := 0)) ev_int)) ev_int))) (fun v_points_10 => (KWk.same (KWk.same (KWk.same (KWk.same (KWk.any (KWk.any (KWk.any (KWk.any (KWk.any (KWk.any KWk.nil))))))))))))))))) (fun s5 =>
(sj_seq (ks1 := fun (v_which_11 : Int) => [Kd.vis (rLs rInt) v_script, Kd.vis rInt s5.1, Kd.vis (rL rII) s5.2, Kd.vis rInt v_way_4, Kd.any, Kd.vis rInt v_which_11, Kd.any, Kd.any, Kd.any, Kd.any])
(sj_set (ev_op o_mod (EvR.ev (er_2 (ev_var (i := 0)) ev_int)) ev_int)) (fun v_which_11 =>
(sj_seq (ks1 := fun (v_tints_13 : (List Int)) => [Kd.vis (rLs rInt) v_script, Kd.vis rInt s5.1, Kd.vis (rL rII) s5.2, Kd.vis rInt v_way_4, Kd.any, Kd.vis rInt v_which_11, Kd.vis (rL rInt) v_tints_13, Kd.any, Kd.any, Kd.any])
(sj_set (en_compR1 (ev_cb2 o_max2 ev_int (ev_var (i := 1))) gj_name (fun x12 => et_noIf) (fun x12 => ev_int)).ev) (fun v_tints_13 =>
(sj_seq (ks1 := fun (v_handed_14 : (List (Int × Int))) => [Kd.vis (rLs rInt) v_script, Kd.vis rInt s5.1, Kd.vis (rL rII) s5.2, Kd.vis rInt v_way_4, Kd.any, Kd.vis rInt v_which_11, Kd.vis (rL rInt) v_tints_13, Kd.vis (rL rII) v_handed_14, Kd.any, Kd.any])
(sj_set (en_list (ev_var (i := 2)).lo).ev) (fun v_handed_14 =>
(sj_seq (ks1 := fun (s15 : Unit) => [Kd.vis (rLs rInt) v_script, Kd.vis rInt s5.1, Kd.vis (rL rII) s5.2, Kd.vis rInt v_way_4, Kd.any, Kd.vis rInt v_which_11, Kd.vis (rL rInt) v_tints_13, Kd.vis (rL rII) v_handed_14, Kd.any, Kd.any])
(sj_try (i := 8) (W := W0) (Ds := (["GoesRound", "NoDyeing", "NoNote", "NoSetting", "NoTie", "NoWeb"] : List Str)) (names := (["NoWeb"] : List Str)) (ks' := fun (_ : Unit) => [Kd.vis (rLs rInt) v_script, Kd.vis rInt s5.1, Kd.vis (rL rII) s5.2, Kd.vis rInt v_way_4, Kd.any, Kd.vis rInt v_which_11, Kd.vis (rL rInt) v_tints_13, Kd.vis (rL rII) v_handed_14, Kd.any, Kd.any]) (kh := fun (_ : Unit) => []) (fun E =>
(sj_seq (ks1 := fun (u16 : Unit) => [Kd.vis (rLs rInt) v_script, Kd.vis rInt s5.1, Kd.vis (rL rII) s5.2, Kd.vis rInt v_way_4, Kd.any, Kd.vis rInt v_which_11, Kd.vis (rL rInt) v_tints_13, Kd.vis (rL rII) v_handed_14, Kd.any, Kd.any])
(sj_expr (EvR.ev (evb_3 (ev_var (i := 5)) (ev_var (i := 1)) (ev_var (i := 7))))) (fun u16 =>
(sj_post (g := (fun (u17 : Unit) => (() : Unit)))
(sj_expr (EvR.ev (evb_4 (ev_var (i := 5)) (ev_var (i := 1)) (ev_var (i := 7)) (ev_var (i := 6))))) (fun u17 => (KWk.same (KWk.same (KWk.same (KWk.same (KWk.any (KWk.same (KWk.same (KWk.same (KWk.any (KWk.any KWk.nil))))))))))))))) (fun E =>
(sjx_or (sjx_first (sjx_expr (evx_3 (ev_var (i := 5)) (ev_var (i := 1)) (ev_var (i := 7))) kx_same))
(sjx_seq (rr := (rtV rBool)) (ks1 := fun (u18 : Unit) => [Kd.vis (rLs rInt) v_script, Kd.vis rInt s5.1, Kd.vis (rL rII) s5.2, Kd.vis rInt v_way_4, Kd.any, Kd.vis rInt v_which_11, Kd.vis (rL rInt) v_tints_13, Kd.vis (rL rII) v_handed_14, Kd.any, Kd.any])
(sj_expr (EvR.ev (evb_3 (ev_var (i := 5)) (ev_var (i := 1)) (ev_var (i := 7))))) (fun u18 =>
(sjx_expr (evx_4 (ev_var (i := 5)) (ev_var (i := 1)) (ev_var (i := 7)) (ev_var (i := 6))) kx_same))))) xall (fun xn C a zn =>
(sj_seq (ks1 := fun (v_other_19 : Bool) => [Kd.vis (rLs rInt) v_script, Kd.vis rInt s5.1, Kd.vis (rL rII) s5.2, Kd.vis rInt v_way_4, Kd.any, Kd.vis rInt v_which_11, Kd.vis (rL rInt) v_tints_13, Kd.vis (rL rII) v_handed_14, Kd.vis (rX a) xn, Kd.vis rBool v_other_19])
(sj_set (ev_or (ev_isx (i := 8) zn (.head _)) (ev_or (ev_isx (i := 8) zn (.tail _ (.head _))) (ev_isx (i := 8) zn (.tail _ (.tail _ (.head _))))))) (fun v_other_19 =>
(sj_seq (ks1 := fun (v_other_20 : Bool) => [Kd.vis (rLs rInt) v_script, Kd.vis rInt s5.1, Kd.vis (rL rII) s5.2, Kd.vis rInt v_way_4, Kd.any, Kd.vis rInt v_which_11, Kd.vis (rL rInt) v_tints_13, Kd.vis (rL rII) v_handed_14, Kd.vis (rX a) xn, Kd.vis rBool v_other_20])
(sj_set (ev_or (ev_var (i := 9)) (ev_or (ev_isx (i := 8) zn (.tail _ (.tail _ (.tail _ (.head _))))) (ev_isx (i := 8) zn (.tail _ (.tail _ (.tail _ (.tail _ (.head _))))))))) (fun v_other_20 =>
(sj_ret (ev_and (ev_isx (i := 8) zn (.tail _ (.tail _ (.tail _ (.tail _ (.tail _ (.head _))))))) (ev_and (ev_isv (i := 8)) (ev_and (ev_not (ev_var (i := 9))) (ev_op o_eqL (ev_var (i := 7)).lo (ev_var (i := 2)).lo))))))))))) (fun s15 =>
(sj_ret ev_bl))))))))))))))))))⟩
end
end Toy

set_option maxHeartbeats 4000000
namespace Toy
open PySem L2
noncomputable def sp_lawT (K : PySem.W.Frag) : Sp := fun vs H Q _ => ∃ (a : Addr) (ns : List Int), vs = [.ref a] ∧ SqL K H a (ns.map V.int) ∧ ns.length ≤ 63 ∧ ∀ H', Q (.bl true) H'
theorem ok_law {P : Program} {w : World} {K : PySem.W.Frag} {mg : Str → Option Value} {base : Heap} (B : Blt K mg) (G__law_cell_at : Fn P w K mg base CX0 1 "_law_cell_at" ["script", "k"] (sp__law_cell_at K)) (G__law_first_eight : Fn P w K mg base CX0 6 "_law_first_eight" ["which", "points", "ties"] (sp__law_first_eight K)) (G__law_next : Fn P w K mg base CX0 1 "_law_next" ["seed"] (sp__law_next K)) (G__law_others : Fn P w K mg base CX0 7 "_law_others" ["which", "points", "ties", "tints"] (sp__law_others K)) (G__law_spoilt : Fn P w K mg base CX0 1 "_law_spoilt" ["ties", "way", "cell"] (sp__law_spoilt K)) (G__law_web_by : Fn P w K mg base CX0 2 "_law_web_by" ["script", "k", "most", "cap"] (sp__law_web_by K)) (GB__law_first_eight : Fc P w K mg base (CX1 P w) 6 "_law_first_eight" (spB (sp__law_first_eight K) (spx__law_first_eight K mg))) (GB__law_others : Fc P w K mg base (CX1 P w) 7 "_law_others" (spB (sp__law_others K) (spx__law_others K mg))) {e : Addr} {ed : FuncData} (F : Fun K "law" "law" s_law e ed) : FnOk P w K mg base CX0 8 e ed ["script"] (sp_lawT K) := by
  refine (fk_law B G__law_cell_at G__law_first_eight G__law_next G__law_others G__law_spoilt G__law_web_by GB__law_first_eight GB__law_others F).imp fun vs H Q E h => ?_
  obtain ⟨a, ns, rfl, hS, h63, q⟩ := h
  refine ⟨[], ns, .ref a, true, rfl, .nil, ⟨a, rfl, _, by rw [hide_nil]; exact hS, paired_ints ns⟩, law_pure ns h63, fun u H' e z => ?_⟩
  cases (show u = .bl true from z)
  exact q H'
theorem all_mk {l : PySem.W.OpenLaw} {w : World} {K : PySem.W.Frag} {h : Heap} {mg : Str → Option Value} {fa : Addr} (X : K.In h) (G : h.Ns mainGlobals mg) (hfa : mg "law" = some (.ref fa))
    {f1 : Addr} {od1 an1 : Option Addr} {sl1 : Array (Option Value)} {oc1 kV1 dc1 pm1 cd1 ct1 : Value}
    {f2 : Addr} {od2 an2 : Option Addr} {sl2 : Array (Option Value)} {oc2 kV2 dc2 pm2 cd2 ct2 : Value}
    {f3 : Addr} {od3 an3 : Option Addr} {sl3 : Array (Option Value)} {oc3 kV3 dc3 pm3 cd3 ct3 : Value}
    {f4 : Addr} {od4 an4 : Option Addr} {sl4 : Array (Option Value)} {oc4 kV4 dc4 pm4 cd4 ct4 : Value}
    {f5 : Addr} {od5 an5 : Option Addr} {sl5 : Array (Option Value)} {oc5 kV5 dc5 pm5 cd5 ct5 : Value}
    {f6 : Addr} {od6 an6 : Option Addr} {sl6 : Array (Option Value)} {oc6 kV6 dc6 pm6 cd6 ct6 : Value}
    {f7 : Addr} {od7 an7 : Option Addr} {sl7 : Array (Option Value)} {oc7 kV7 dc7 pm7 cd7 ct7 : Value}
    {f8 : Addr} {od8 an8 : Option Addr} {sl8 : Array (Option Value)} {oc8 kV8 dc8 pm8 cd8 ct8 : Value}
    {f9 : Addr} {od9 an9 : Option Addr} {sl9 : Array (Option Value)} {oc9 kV9 dc9 pm9 cd9 ct9 : Value}
    {f10 : Addr} {od10 an10 : Option Addr} {sl10 : Array (Option Value)} {oc10 kV10 dc10 pm10 cd10 ct10 : Value}
    {f11 : Addr} {od11 an11 : Option Addr} {sl11 : Array (Option Value)} {oc11 kV11 dc11 pm11 cd11 ct11 : Value}
    {f12 : Addr} {od12 an12 : Option Addr} {sl12 : Array (Option Value)} {oc12 kV12 dc12 pm12 cd12 ct12 : Value}
    {f13 : Addr} {od13 an13 : Option Addr} {sl13 : Array (Option Value)} {oc13 kV13 dc13 pm13 cd13 ct13 : Value}
    {f14 : Addr} {od14 an14 : Option Addr} {sl14 : Array (Option Value)} {oc14 kV14 dc14 pm14 cd14 ct14 : Value}
    {f15 : Addr} {od15 an15 : Option Addr} {sl15 : Array (Option Value)} {oc15 kV15 dc15 pm15 cd15 ct15 : Value}
    {f16 : Addr} {od16 an16 : Option Addr} {sl16 : Array (Option Value)} {oc16 kV16 dc16 pm16 cd16 ct16 : Value}
    {f17 : Addr} {od17 an17 : Option Addr} {sl17 : Array (Option Value)} {oc17 kV17 dc17 pm17 cd17 ct17 : Value}
    {f18 : Addr} {od18 an18 : Option Addr} {sl18 : Array (Option Value)} {oc18 kV18 dc18 pm18 cd18 ct18 : Value}
    {f19 : Addr} {od19 an19 : Option Addr} {sl19 : Array (Option Value)} {oc19 kV19 dc19 pm19 cd19 ct19 : Value}
    {f20 : Addr} {od20 an20 : Option Addr} {sl20 : Array (Option Value)} {oc20 kV20 dc20 pm20 cd20 ct20 : Value}
    {f21 : Addr} {od21 an21 : Option Addr} {sl21 : Array (Option Value)} {oc21 kV21 dc21 pm21 cd21 ct21 : Value}
    {f22 : Addr} {od22 an22 : Option Addr} {sl22 : Array (Option Value)} {oc22 kV22 dc22 pm22 cd22 ct22 : Value}
    {f23 : Addr} {od23 an23 : Option Addr} {sl23 : Array (Option Value)} {oc23 kV23 dc23 pm23 cd23 ct23 : Value}
    {f24 : Addr} {od24 an24 : Option Addr} {sl24 : Array (Option Value)} {oc24 kV24 dc24 pm24 cd24 ct24 : Value}
    {f25 : Addr} {od25 an25 : Option Addr} {sl25 : Array (Option Value)} {oc25 kV25 dc25 pm25 cd25 ct25 : Value}
    {f26 : Addr} {od26 an26 : Option Addr} {sl26 : Array (Option Value)} {oc26 kV26 dc26 pm26 cd26 ct26 : Value}
    {f27 : Addr} {od27 an27 : Option Addr} {sl27 : Array (Option Value)} {oc27 kV27 dc27 pm27 cd27 ct27 : Value}
    {f28 : Addr} {od28 an28 : Option Addr} {sl28 : Array (Option Value)} {oc28 kV28 dc28 pm28 cd28 ct28 : Value}
    {f29 : Addr} {od29 an29 : Option Addr} {sl29 : Array (Option Value)} {oc29 kV29 dc29 pm29 cd29 ct29 : Value}
    {f30 : Addr} {od30 an30 : Option Addr} {sl30 : Array (Option Value)} {oc30 kV30 dc30 pm30 cd30 ct30 : Value}
    {tk1 : Tok}
    {tk2 : Tok}
    {cx0 cx1 cx2 cx3 cx4 cx5 cx6 : Addr}
    (a1 : PySem.W.nsIn K mainGlobals "is_web" = some (some (.ref f1))) (l1 : K.lookup f1 = some ⟨oc1, od1, .func (PySem.W.fnOf "is_web" "is_web" (defArgs s_is_web) (defBody s_is_web) (defScope s_is_web) .none kV1 dc1 pm1 an1 cd1 ct1), sl1⟩) (c1 : PySem.W.codeIn K cd1 "is_web" = true) (k1 : PySem.W.keepIn K (.ref f1) = true)
    (a2 : PySem.W.nsIn K mainGlobals "ties_join_points" = some (some (.ref f2))) (l2 : K.lookup f2 = some ⟨oc2, od2, .func (PySem.W.fnOf "ties_join_points" "ties_join_points" (defArgs s_ties_join_points) (defBody s_ties_join_points) (defScope s_ties_join_points) .none kV2 dc2 pm2 an2 cd2 ct2), sl2⟩) (c2 : PySem.W.codeIn K cd2 "ties_join_points" = true) (k2 : PySem.W.keepIn K (.ref f2) = true)
    (a3 : PySem.W.nsIn K mainGlobals "ties_rise" = some (some (.ref f3))) (l3 : K.lookup f3 = some ⟨oc3, od3, .func (PySem.W.fnOf "ties_rise" "ties_rise" (defArgs s_ties_rise) (defBody s_ties_rise) (defScope s_ties_rise) .none kV3 dc3 pm3 an3 cd3 ct3), sl3⟩) (c3 : PySem.W.codeIn K cd3 "ties_rise" = true) (k3 : PySem.W.keepIn K (.ref f3) = true)
    (a4 : PySem.W.nsIn K mainGlobals "refuse_no_web" = some (some (.ref f4))) (l4 : K.lookup f4 = some ⟨oc4, od4, .func (PySem.W.fnOf "refuse_no_web" "refuse_no_web" (defArgs s_refuse_no_web) (defBody s_refuse_no_web) (defScope s_refuse_no_web) .none kV4 dc4 pm4 an4 cd4 ct4), sl4⟩) (c4 : PySem.W.codeIn K cd4 "refuse_no_web" = true) (k4 : PySem.W.keepIn K (.ref f4) = true)
    (a5 : PySem.W.nsIn K mainGlobals "cut" = some (some (.ref f5))) (l5 : K.lookup f5 = some ⟨oc5, od5, .func (PySem.W.fnOf "cut" "cut" (defArgs s_cut) (defBody s_cut) (defScope s_cut) .none kV5 dc5 pm5 an5 cd5 ct5), sl5⟩) (c5 : PySem.W.codeIn K cd5 "cut" = true) (k5 : PySem.W.keepIn K (.ref f5) = true)
    (a6 : PySem.W.nsIn K mainGlobals "merged" = some (some (.ref f6))) (l6 : K.lookup f6 = some ⟨oc6, od6, .func (PySem.W.fnOf "merged" "merged" (defArgs s_merged) (defBody s_merged) (defScope s_merged) .none kV6 dc6 pm6 an6 cd6 ct6), sl6⟩) (c6 : PySem.W.codeIn K cd6 "merged" = true) (k6 : PySem.W.keepIn K (.ref f6) = true)
    (a7 : PySem.W.nsIn K mainGlobals "pieces" = some (some (.ref f7))) (l7 : K.lookup f7 = some ⟨oc7, od7, .func (PySem.W.fnOf "pieces" "pieces" (defArgs s_pieces) (defBody s_pieces) (defScope s_pieces) .none kV7 dc7 pm7 an7 cd7 ct7), sl7⟩) (c7 : PySem.W.codeIn K cd7 "pieces" = true) (k7 : PySem.W.keepIn K (.ref f7) = true)
    (a8 : PySem.W.nsIn K mainGlobals "beside" = some (some (.ref f8))) (l8 : K.lookup f8 = some ⟨oc8, od8, .func (PySem.W.fnOf "beside" "beside" (defArgs s_beside) (defBody s_beside) (defScope s_beside) .none kV8 dc8 pm8 an8 cd8 ct8), sl8⟩) (c8 : PySem.W.codeIn K cd8 "beside" = true) (k8 : PySem.W.keepIn K (.ref f8) = true)
    (a9 : PySem.W.nsIn K mainGlobals "is_dyeing" = some (some (.ref f9))) (l9 : K.lookup f9 = some ⟨oc9, od9, .func (PySem.W.fnOf "is_dyeing" "is_dyeing" (defArgs s_is_dyeing) (defBody s_is_dyeing) (defScope s_is_dyeing) .none kV9 dc9 pm9 an9 cd9 ct9), sl9⟩) (c9 : PySem.W.codeIn K cd9 "is_dyeing" = true) (k9 : PySem.W.keepIn K (.ref f9) = true)
    (a10 : PySem.W.nsIn K mainGlobals "fewest" = some (some (.ref f10))) (l10 : K.lookup f10 = some ⟨oc10, od10, .func (PySem.W.fnOf "fewest" "fewest" (defArgs s_fewest) (defBody s_fewest) (defScope s_fewest) .none kV10 dc10 pm10 an10 cd10 ct10), sl10⟩) (c10 : PySem.W.codeIn K cd10 "fewest" = true) (k10 : PySem.W.keepIn K (.ref f10) = true)
    (a11 : PySem.W.nsIn K mainGlobals "least" = some (some (.ref f11))) (l11 : K.lookup f11 = some ⟨oc11, od11, .func (PySem.W.fnOf "least" "least" (defArgs s_least) (defBody s_least) (defScope s_least) .none kV11 dc11 pm11 an11 cd11 ct11), sl11⟩) (c11 : PySem.W.codeIn K cd11 "least" = true) (k11 : PySem.W.keepIn K (.ref f11) = true)
    (a12 : PySem.W.nsIn K mainGlobals "goes_round" = some (some (.ref f12))) (l12 : K.lookup f12 = some ⟨oc12, od12, .func (PySem.W.fnOf "goes_round" "goes_round" (defArgs s_goes_round) (defBody s_goes_round) (defScope s_goes_round) .none kV12 dc12 pm12 an12 cd12 ct12), sl12⟩) (c12 : PySem.W.codeIn K cd12 "goes_round" = true) (k12 : PySem.W.keepIn K (.ref f12) = true)
    (a13 : PySem.W.nsIn K mainGlobals "ranks" = some (some (.ref f13))) (l13 : K.lookup f13 = some ⟨oc13, od13, .func (PySem.W.fnOf "ranks" "ranks" (defArgs s_ranks) (defBody s_ranks) (defScope s_ranks) .none kV13 dc13 pm13 an13 cd13 ct13), sl13⟩) (c13 : PySem.W.codeIn K cd13 "ranks" = true) (k13 : PySem.W.keepIn K (.ref f13) = true)
    (a14 : PySem.W.nsIn K mainGlobals "refuse_no_setting" = some (some (.ref f14))) (l14 : K.lookup f14 = some ⟨oc14, od14, .func (PySem.W.fnOf "refuse_no_setting" "refuse_no_setting" (defArgs s_refuse_no_setting) (defBody s_refuse_no_setting) (defScope s_refuse_no_setting) .none kV14 dc14 pm14 an14 cd14 ct14), sl14⟩) (c14 : PySem.W.codeIn K cd14 "refuse_no_setting" = true) (k14 : PySem.W.keepIn K (.ref f14) = true)
    (a15 : PySem.W.nsIn K mainGlobals "setting_of" = some (some (.ref f15))) (l15 : K.lookup f15 = some ⟨oc15, od15, .func (PySem.W.fnOf "setting_of" "setting_of" (defArgs s_setting_of) (defBody s_setting_of) (defScope s_setting_of) .none kV15 dc15 pm15 an15 cd15 ct15), sl15⟩) (c15 : PySem.W.codeIn K cd15 "setting_of" = true) (k15 : PySem.W.keepIn K (.ref f15) = true)
    (a16 : PySem.W.nsIn K mainGlobals "flattest" = some (some (.ref f16))) (l16 : K.lookup f16 = some ⟨oc16, od16, .func (PySem.W.fnOf "flattest" "flattest" (defArgs s_flattest) (defBody s_flattest) (defScope s_flattest) .none kV16 dc16 pm16 an16 cd16 ct16), sl16⟩) (c16 : PySem.W.codeIn K cd16 "flattest" = true) (k16 : PySem.W.keepIn K (.ref f16) = true)
    (a17 : PySem.W.nsIn K mainGlobals "row" = some (some (.ref f17))) (l17 : K.lookup f17 = some ⟨oc17, od17, .func (PySem.W.fnOf "row" "row" (defArgs s_row) (defBody s_row) (defScope s_row) .none kV17 dc17 pm17 an17 cd17 ct17), sl17⟩) (c17 : PySem.W.codeIn K cd17 "row" = true) (k17 : PySem.W.keepIn K (.ref f17) = true)
    (a18 : PySem.W.nsIn K mainGlobals "worth" = some (some (.ref f18))) (l18 : K.lookup f18 = some ⟨oc18, od18, .func (PySem.W.fnOf "worth" "worth" (defArgs s_worth) (defBody s_worth) (defScope s_worth) .none kV18 dc18 pm18 an18 cd18 ct18), sl18⟩) (c18 : PySem.W.codeIn K cd18 "worth" = true) (k18 : PySem.W.keepIn K (.ref f18) = true)
    (a19 : PySem.W.nsIn K mainGlobals "settings" = some (some (.ref f19))) (l19 : K.lookup f19 = some ⟨oc19, od19, .func (PySem.W.fnOf "settings" "settings" (defArgs s_settings) (defBody s_settings) (defScope s_settings) .none kV19 dc19 pm19 an19 cd19 ct19), sl19⟩) (c19 : PySem.W.codeIn K cd19 "settings" = true) (k19 : PySem.W.keepIn K (.ref f19) = true)
    (a20 : PySem.W.nsIn K mainGlobals "from_spring" = some (some (.ref f20))) (l20 : K.lookup f20 = some ⟨oc20, od20, .func (PySem.W.fnOf "from_spring" "from_spring" (defArgs s_from_spring) (defBody s_from_spring) (defScope s_from_spring) .none kV20 dc20 pm20 an20 cd20 ct20), sl20⟩) (c20 : PySem.W.codeIn K cd20 "from_spring" = true) (k20 : PySem.W.keepIn K (.ref f20) = true)
    (a21 : PySem.W.nsIn K mainGlobals "pairs" = some (some (.ref f21))) (l21 : K.lookup f21 = some ⟨oc21, od21, .func (PySem.W.fnOf "pairs" "pairs" (defArgs s_pairs) (defBody s_pairs) (defScope s_pairs) .none kV21 dc21 pm21 an21 cd21 ct21), sl21⟩) (c21 : PySem.W.codeIn K cd21 "pairs" = true) (k21 : PySem.W.keepIn K (.ref f21) = true)
    (a22 : PySem.W.nsIn K mainGlobals "unbroken" = some (some (.ref f22))) (l22 : K.lookup f22 = some ⟨oc22, od22, .func (PySem.W.fnOf "unbroken" "unbroken" (defArgs s_unbroken) (defBody s_unbroken) (defScope s_unbroken) .none kV22 dc22 pm22 an22 cd22 ct22), sl22⟩) (c22 : PySem.W.codeIn K cd22 "unbroken" = true) (k22 : PySem.W.keepIn K (.ref f22) = true)
    (a23 : PySem.W.nsIn K mainGlobals "shown" = some (some (.ref f23))) (l23 : K.lookup f23 = some ⟨oc23, od23, .func (PySem.W.fnOf "shown" "shown" (defArgs s_shown) (defBody s_shown) (defScope s_shown) .none kV23 dc23 pm23 an23 cd23 ct23), sl23⟩) (c23 : PySem.W.codeIn K cd23 "shown" = true) (k23 : PySem.W.keepIn K (.ref f23) = true)
    (a24 : PySem.W.nsIn K mainGlobals "_law_cell_at" = some (some (.ref f24))) (l24 : K.lookup f24 = some ⟨oc24, od24, .func (PySem.W.fnOf "_law_cell_at" "_law_cell_at" (defArgs s__law_cell_at) (defBody s__law_cell_at) (defScope s__law_cell_at) .none kV24 dc24 pm24 an24 cd24 ct24), sl24⟩) (c24 : PySem.W.codeIn K cd24 "_law_cell_at" = true) (k24 : PySem.W.keepIn K (.ref f24) = true)
    (a25 : PySem.W.nsIn K mainGlobals "_law_next" = some (some (.ref f25))) (l25 : K.lookup f25 = some ⟨oc25, od25, .func (PySem.W.fnOf "_law_next" "_law_next" (defArgs s__law_next) (defBody s__law_next) (defScope s__law_next) .none kV25 dc25 pm25 an25 cd25 ct25), sl25⟩) (c25 : PySem.W.codeIn K cd25 "_law_next" = true) (k25 : PySem.W.keepIn K (.ref f25) = true)
    (a26 : PySem.W.nsIn K mainGlobals "_law_web_by" = some (some (.ref f26))) (l26 : K.lookup f26 = some ⟨oc26, od26, .func (PySem.W.fnOf "_law_web_by" "_law_web_by" (defArgs s__law_web_by) (defBody s__law_web_by) (defScope s__law_web_by) .none kV26 dc26 pm26 an26 cd26 ct26), sl26⟩) (c26 : PySem.W.codeIn K cd26 "_law_web_by" = true) (k26 : PySem.W.keepIn K (.ref f26) = true)
    (a27 : PySem.W.nsIn K mainGlobals "_law_spoilt" = some (some (.ref f27))) (l27 : K.lookup f27 = some ⟨oc27, od27, .func (PySem.W.fnOf "_law_spoilt" "_law_spoilt" (defArgs s__law_spoilt) (defBody s__law_spoilt) (defScope s__law_spoilt) .none kV27 dc27 pm27 an27 cd27 ct27), sl27⟩) (c27 : PySem.W.codeIn K cd27 "_law_spoilt" = true) (k27 : PySem.W.keepIn K (.ref f27) = true)
    (a28 : PySem.W.nsIn K mainGlobals "_law_first_eight" = some (some (.ref f28))) (l28 : K.lookup f28 = some ⟨oc28, od28, .func (PySem.W.fnOf "_law_first_eight" "_law_first_eight" (defArgs s__law_first_eight) (defBody s__law_first_eight) (defScope s__law_first_eight) .none kV28 dc28 pm28 an28 cd28 ct28), sl28⟩) (c28 : PySem.W.codeIn K cd28 "_law_first_eight" = true) (k28 : PySem.W.keepIn K (.ref f28) = true)
    (a29 : PySem.W.nsIn K mainGlobals "_law_others" = some (some (.ref f29))) (l29 : K.lookup f29 = some ⟨oc29, od29, .func (PySem.W.fnOf "_law_others" "_law_others" (defArgs s__law_others) (defBody s__law_others) (defScope s__law_others) .none kV29 dc29 pm29 an29 cd29 ct29), sl29⟩) (c29 : PySem.W.codeIn K cd29 "_law_others" = true) (k29 : PySem.W.keepIn K (.ref f29) = true)
    (a30 : PySem.W.nsIn K mainGlobals "law" = some (some (.ref f30))) (l30 : K.lookup f30 = some ⟨oc30, od30, .func (PySem.W.fnOf "law" "law" (defArgs s_law) (defBody s_law) (defScope s_law) .none kV30 dc30 pm30 an30 cd30 ct30), sl30⟩) (c30 : PySem.W.codeIn K cd30 "law" = true) (k30 : PySem.W.keepIn K (.ref f30) = true)
    (z1 : PySem.W.nsIn K mainGlobals "ValueError" = some none)
    (z2 : PySem.W.nsIn K mainGlobals "abs" = some none)
    (z3 : PySem.W.nsIn K mainGlobals "all" = some none)
    (z4 : PySem.W.nsIn K mainGlobals "isinstance" = some none)
    (z5 : PySem.W.nsIn K mainGlobals "len" = some none)
    (z6 : PySem.W.nsIn K mainGlobals "list" = some none)
    (z7 : PySem.W.nsIn K mainGlobals "max" = some none)
    (z8 : PySem.W.nsIn K mainGlobals "range" = some none)
    (z9 : PySem.W.nsIn K mainGlobals "reversed" = some none)
    (y1 : PySem.W.nsIn K mainGlobals "MOST_POINTS" = some (some (Value.int 7 tk1)))
    (y2 : PySem.W.nsIn K mainGlobals "MOST_TIES" = some (some (Value.int 12 tk2)))
    (n_cx0 : PySem.W.nsIn K mainGlobals "WebError" = some (some (.ref cx0)))
    (e_cx0 : PySem.W.excIn K cx0 mroV "ValueError.__new__" = true)
    (n_cx1 : PySem.W.nsIn K mainGlobals "GoesRound" = some (some (.ref cx1)))
    (e_cx1 : PySem.W.excIn K cx1 mroV "ValueError.__new__" = true)
    (n_cx2 : PySem.W.nsIn K mainGlobals "NoDyeing" = some (some (.ref cx2)))
    (e_cx2 : PySem.W.excIn K cx2 mroV "ValueError.__new__" = true)
    (n_cx3 : PySem.W.nsIn K mainGlobals "NoNote" = some (some (.ref cx3)))
    (e_cx3 : PySem.W.excIn K cx3 mroV "ValueError.__new__" = true)
    (n_cx4 : PySem.W.nsIn K mainGlobals "NoSetting" = some (some (.ref cx4)))
    (e_cx4 : PySem.W.excIn K cx4 mroV "ValueError.__new__" = true)
    (n_cx5 : PySem.W.nsIn K mainGlobals "NoTie" = some (some (.ref cx5)))
    (e_cx5 : PySem.W.excIn K cx5 mroV "ValueError.__new__" = true)
    (n_cx6 : PySem.W.nsIn K mainGlobals "NoWeb" = some (some (.ref cx6)))
    (e_cx6 : PySem.W.excIn K cx6 mroV "ValueError.__new__" = true)
    (t_cx1 : PySem.W.typeIn K (.ref cx1) = some (.type "type"))
    (t_cx2 : PySem.W.typeIn K (.ref cx2) = some (.type "type"))
    (t_cx3 : PySem.W.typeIn K (.ref cx3) = some (.type "type"))
    (t_cx4 : PySem.W.typeIn K (.ref cx4) = some (.type "type"))
    (t_cx5 : PySem.W.typeIn K (.ref cx5) = some (.type "type"))
    (t_cx6 : PySem.W.typeIn K (.ref cx6) = some (.type "type"))
    (ga_cx6 : PySem.W.findIn K (.ref cx6) "__getattribute__" = some (some (.builtin "BaseException.__getattribute__")))
    (gt_cx6 : PySem.W.findIn K (.ref cx6) "__getattr__" = some none)
    (cl_cx6 : PySem.W.findIn K (.ref cx6) "__class__" = some (some (.builtin "object.__class__")))
    (sw_cx6 : PySem.W.subIn K (.ref cx6) (.ref cx0) = some true)
    (sv_cx6 : PySem.W.subIn K (.ref cx6) (.type "ValueError") = some true)
    (ss_cx6 : PySem.W.subIn K (.ref cx6) (.ref cx6) = some true)
    (sd_cx6_cx1 : PySem.W.subIn K (.ref cx6) (.ref cx1) = some false)
    (sd_cx6_cx2 : PySem.W.subIn K (.ref cx6) (.ref cx2) = some false)
    (sd_cx6_cx3 : PySem.W.subIn K (.ref cx6) (.ref cx3) = some false)
    (sd_cx6_cx4 : PySem.W.subIn K (.ref cx6) (.ref cx4) = some false)
    (sd_cx6_cx5 : PySem.W.subIn K (.ref cx6) (.ref cx5) = some false)
    (sd_cx6_cx6 : PySem.W.subIn K (.ref cx6) (.ref cx6) = some true) :
    ∃ fd : FuncData, (∀ (s : Shared) (v : Value), BindsTo s fd ⟨[v], []⟩ [("script", v)]) ∧ ∀ base : Heap, K.In base → base.Ns mainGlobals mg → FnOk l.prog w K mg base CX0 8 fa fd ["script"] (sp_lawT K) := by
  have e := hfa.symm.trans (PySem.W.mg_of X G a30)
  cases e
  have A_is_web : At K mg "is_web" s_is_web ["points", "ties"] := at_mk X G a1 l1 c1 k1 fun _ _ _ _ _ _ => us2 fun _ _ => rfl
  have A_ties_join_points : At K mg "ties_join_points" s_ties_join_points ["points", "ties"] := at_mk X G a2 l2 c2 k2 fun _ _ _ _ _ _ => us2 fun _ _ => rfl
  have A_ties_rise : At K mg "ties_rise" s_ties_rise ["ties"] := at_mk X G a3 l3 c3 k3 fun _ _ _ _ _ _ => us1 fun _ => rfl
  have A_refuse_no_web : At K mg "refuse_no_web" s_refuse_no_web ["points", "ties"] := at_mk X G a4 l4 c4 k4 fun _ _ _ _ _ _ => us2 fun _ _ => rfl
  have A_cut : At K mg "cut" s_cut ["points", "ties", "tie"] := at_mk X G a5 l5 c5 k5 fun _ _ _ _ _ _ => us3 fun _ _ _ => rfl
  have A_merged : At K mg "merged" s_merged ["points", "ties", "tie"] := at_mk X G a6 l6 c6 k6 fun _ _ _ _ _ _ => us3 fun _ _ _ => rfl
  have A_pieces : At K mg "pieces" s_pieces ["points", "ties"] := at_mk X G a7 l7 c7 k7 fun _ _ _ _ _ _ => us2 fun _ _ => rfl
  have A_beside : At K mg "beside" s_beside ["points", "ties", "more", "others"] := at_mk X G a8 l8 c8 k8 fun _ _ _ _ _ _ => us4 fun _ _ _ _ => rfl
  have A_is_dyeing : At K mg "is_dyeing" s_is_dyeing ["points", "ties", "dyes", "many"] := at_mk X G a9 l9 c9 k9 fun _ _ _ _ _ _ => us4 fun _ _ _ _ => rfl
  have A_fewest : At K mg "fewest" s_fewest ["points", "ties"] := at_mk X G a10 l10 c10 k10 fun _ _ _ _ _ _ => us2 fun _ _ => rfl
  have A_least : At K mg "least" s_least ["points", "ties", "many"] := at_mk X G a11 l11 c11 k11 fun _ _ _ _ _ _ => us3 fun _ _ _ => rfl
  have A_goes_round : At K mg "goes_round" s_goes_round ["points", "ties", "arrows"] := at_mk X G a12 l12 c12 k12 fun _ _ _ _ _ _ => us3 fun _ _ _ => rfl
  have A_ranks : At K mg "ranks" s_ranks ["points", "ties", "arrows"] := at_mk X G a13 l13 c13 k13 fun _ _ _ _ _ _ => us3 fun _ _ _ => rfl
  have A_refuse_no_setting : At K mg "refuse_no_setting" s_refuse_no_setting ["points", "ties", "arrows"] := at_mk X G a14 l14 c14 k14 fun _ _ _ _ _ _ => us3 fun _ _ _ => rfl
  have A_setting_of : At K mg "setting_of" s_setting_of ["points", "ties", "dyes"] := at_mk X G a15 l15 c15 k15 fun _ _ _ _ _ _ => us3 fun _ _ _ => rfl
  have A_flattest : At K mg "flattest" s_flattest ["points", "ties"] := at_mk X G a16 l16 c16 k16 fun _ _ _ _ _ _ => us2 fun _ _ => rfl
  have A_row : At K mg "row" s_row ["points", "ties"] := at_mk X G a17 l17 c17 k17 fun _ _ _ _ _ _ => us2 fun _ _ => rfl
  have A_worth : At K mg "worth" s_worth ["numbers", "q"] := at_mk X G a18 l18 c18 k18 fun _ _ _ _ _ _ => us2 fun _ _ => rfl
  have A_settings : At K mg "settings" s_settings ["points", "ties"] := at_mk X G a19 l19 c19 k19 fun _ _ _ _ _ _ => us2 fun _ _ => rfl
  have A_from_spring : At K mg "from_spring" s_from_spring ["points", "ties", "point"] := at_mk X G a20 l20 c20 k20 fun _ _ _ _ _ _ => us3 fun _ _ _ => rfl
  have A_pairs : At K mg "pairs" s_pairs ["points", "ties", "q"] := at_mk X G a21 l21 c21 k21 fun _ _ _ _ _ _ => us3 fun _ _ _ => rfl
  have A_unbroken : At K mg "unbroken" s_unbroken ["points", "ties", "many"] := at_mk X G a22 l22 c22 k22 fun _ _ _ _ _ _ => us3 fun _ _ _ => rfl
  have A_shown : At K mg "shown" s_shown ["points", "ties"] := at_mk X G a23 l23 c23 k23 fun _ _ _ _ _ _ => us2 fun _ _ => rfl
  have A__law_cell_at : At K mg "_law_cell_at" s__law_cell_at ["script", "k"] := at_mk X G a24 l24 c24 k24 fun _ _ _ _ _ _ => us2 fun _ _ => rfl
  have A__law_next : At K mg "_law_next" s__law_next ["seed"] := at_mk X G a25 l25 c25 k25 fun _ _ _ _ _ _ => us1 fun _ => rfl
  have A__law_web_by : At K mg "_law_web_by" s__law_web_by ["script", "k", "most", "cap"] := at_mk X G a26 l26 c26 k26 fun _ _ _ _ _ _ => us4 fun _ _ _ _ => rfl
  have A__law_spoilt : At K mg "_law_spoilt" s__law_spoilt ["ties", "way", "cell"] := at_mk X G a27 l27 c27 k27 fun _ _ _ _ _ _ => us3 fun _ _ _ => rfl
  have A__law_first_eight : At K mg "_law_first_eight" s__law_first_eight ["which", "points", "ties"] := at_mk X G a28 l28 c28 k28 fun _ _ _ _ _ _ => us3 fun _ _ _ => rfl
  have A__law_others : At K mg "_law_others" s__law_others ["which", "points", "ties", "tints"] := at_mk X G a29 l29 c29 k29 fun _ _ _ _ _ _ => us4 fun _ _ _ _ => rfl
  have A_law : At K mg "law" s_law ["script"] := at_mk X G a30 l30 c30 k30 fun _ _ _ _ _ _ => us1 fun _ => rfl
  have B : Blt K mg := ⟨PySem.W.mg_none_of X G z1, PySem.W.mg_none_of X G z2, PySem.W.mg_none_of X G z3, PySem.W.mg_none_of X G z4, PySem.W.mg_none_of X G z5, PySem.W.mg_none_of X G z6, PySem.W.mg_none_of X G z7, PySem.W.mg_none_of X G z8, PySem.W.mg_none_of X G z9, ⟨_, PySem.W.mg_of X G y1⟩, ⟨_, PySem.W.mg_of X G y2⟩, ⟨_, PySem.W.mg_of X G n_cx6, e_cx6⟩, ⟨_, PySem.W.mg_of X G n_cx0, e_cx0, (al_cons ⟨cx6, ⟨⟨⟨e_cx6, ga_cx6, gt_cx6, cl_cx6⟩, sw_cx6⟩, PySem.W.mg_of X G n_cx6, (al_cons ⟨_, PySem.W.mg_of X G n_cx1, by rw [show decide (("NoWeb" : Str) = "GoesRound") = false by decide]; exact kit_own ss_cx6 sd_cx6_cx1 e_cx1 t_cx1⟩ (al_cons ⟨_, PySem.W.mg_of X G n_cx2, by rw [show decide (("NoWeb" : Str) = "NoDyeing") = false by decide]; exact kit_own ss_cx6 sd_cx6_cx2 e_cx2 t_cx2⟩ (al_cons ⟨_, PySem.W.mg_of X G n_cx3, by rw [show decide (("NoWeb" : Str) = "NoNote") = false by decide]; exact kit_own ss_cx6 sd_cx6_cx3 e_cx3 t_cx3⟩ (al_cons ⟨_, PySem.W.mg_of X G n_cx4, by rw [show decide (("NoWeb" : Str) = "NoSetting") = false by decide]; exact kit_own ss_cx6 sd_cx6_cx4 e_cx4 t_cx4⟩ (al_cons ⟨_, PySem.W.mg_of X G n_cx5, by rw [show decide (("NoWeb" : Str) = "NoTie") = false by decide]; exact kit_own ss_cx6 sd_cx6_cx5 e_cx5 t_cx5⟩ (al_cons ⟨_, PySem.W.mg_of X G n_cx6, by rw [show decide (("NoWeb" : Str) = "NoWeb") = true by decide]; exact kit_own ss_cx6 sd_cx6_cx6 e_cx6 t_cx6⟩ al_nil)))))), kit_val sv_cx6⟩⟩ al_nil)⟩⟩
  refine ⟨PySem.W.fnOf "law" "law" (defArgs s_law) (defBody s_law) (defScope s_law) .none kV30 dc30 pm30 an30 cd30 ct30, fun s v => .of_eq rfl, fun base _ _ => ?_⟩
  have G_ties_join_points := fn_ties_join_points (P := l.prog) (w := w) (base := base) B A_ties_join_points
  have G_ties_rise := fn_ties_rise (P := l.prog) (w := w) (base := base) B A_ties_rise
  have G_is_web := fn_is_web (P := l.prog) (w := w) (base := base) B G_ties_join_points G_ties_rise A_is_web
  have G_refuse_no_web := fn_refuse_no_web (P := l.prog) (w := w) (base := base) B G_is_web A_refuse_no_web
  have GB_refuse_no_web : Fc l.prog w K mg base (CX1 l.prog w) 3 "refuse_no_web" (spB (sp_refuse_no_web K) (spx_refuse_no_web K mg)) := Fc.or (Fc.of0 (Fn.fc G_refuse_no_web)) (Fn.fc (fx_refuse_no_web (P := l.prog) (w := w) (base := base) B G_is_web A_refuse_no_web))
  have G_cut := fn_cut (P := l.prog) (w := w) (base := base) B G_refuse_no_web A_cut
  have GB_cut : Fc l.prog w K mg base (CX1 l.prog w) 4 "cut" (spB (sp_cut K) (spx_cut K mg)) := Fc.or (Fc.of0 (Fn.fc G_cut)) (Fn.fc (fx_cut (P := l.prog) (w := w) (base := base) B G_refuse_no_web GB_refuse_no_web A_cut))
  have G_merged := fn_merged (P := l.prog) (w := w) (base := base) B G_refuse_no_web A_merged
  have GB_merged : Fc l.prog w K mg base (CX1 l.prog w) 4 "merged" (spB (sp_merged K) (spx_merged K mg)) := Fc.or (Fc.of0 (Fn.fc G_merged)) (Fn.fc (fx_merged (P := l.prog) (w := w) (base := base) B G_refuse_no_web GB_refuse_no_web A_merged))
  have G_pieces := fn_pieces (P := l.prog) (w := w) (base := base) B G_refuse_no_web A_pieces
  have GB_pieces : Fc l.prog w K mg base (CX1 l.prog w) 4 "pieces" (spB (sp_pieces K) (spx_pieces K mg)) := Fc.or (Fc.of0 (Fn.fc G_pieces)) (Fn.fc (fx_pieces (P := l.prog) (w := w) (base := base) B G_refuse_no_web GB_refuse_no_web A_pieces))
  have G_beside := fn_beside (P := l.prog) (w := w) (base := base) B G_refuse_no_web A_beside
  have GB_beside : Fc l.prog w K mg base (CX1 l.prog w) 4 "beside" (spB (sp_beside K) (spx_beside K mg)) := Fc.or (Fc.of0 (Fn.fc G_beside)) (Fn.fc (fx_beside (P := l.prog) (w := w) (base := base) B G_refuse_no_web GB_refuse_no_web A_beside))
  have G_is_dyeing := fn_is_dyeing (P := l.prog) (w := w) (base := base) B G_refuse_no_web A_is_dyeing
  have GB_is_dyeing : Fc l.prog w K mg base (CX1 l.prog w) 4 "is_dyeing" (spB (sp_is_dyeing K) (spx_is_dyeing K mg)) := Fc.or (Fc.of0 (Fn.fc G_is_dyeing)) (Fn.fc (fx_is_dyeing (P := l.prog) (w := w) (base := base) B G_refuse_no_web GB_refuse_no_web A_is_dyeing))
  have G_least := fn_least (P := l.prog) (w := w) (base := base) B G_refuse_no_web A_least
  have GB_least : Fc l.prog w K mg base (CX1 l.prog w) 4 "least" (spB (sp_least K) (spx_least K mg)) := Fc.or (Fc.of0 (Fn.fc G_least)) (Fn.fc (fx_least (P := l.prog) (w := w) (base := base) B G_refuse_no_web GB_refuse_no_web A_least))
  have G_fewest := fn_fewest (P := l.prog) (w := w) (base := base) B G_least A_fewest
  have GB_fewest : Fc l.prog w K mg base (CX1 l.prog w) 5 "fewest" (spB (sp_fewest K) (spx_fewest K mg)) := Fc.or (Fc.of0 (Fn.fc G_fewest)) (Fn.fc (fx_fewest (P := l.prog) (w := w) (base := base) B G_least GB_least A_fewest))
  have G_refuse_no_setting := fn_refuse_no_setting (P := l.prog) (w := w) (base := base) B G_refuse_no_web A_refuse_no_setting
  have GB_refuse_no_setting : Fc l.prog w K mg base (CX1 l.prog w) 4 "refuse_no_setting" (spB (sp_refuse_no_setting K) (spx_refuse_no_setting K mg)) := Fc.or (Fc.of0 (Fn.fc G_refuse_no_setting)) (Fn.fc (fx_refuse_no_setting (P := l.prog) (w := w) (base := base) B G_refuse_no_web GB_refuse_no_web A_refuse_no_setting))
  have G_goes_round := fn_goes_round (P := l.prog) (w := w) (base := base) B G_refuse_no_setting A_goes_round
  have GB_goes_round : Fc l.prog w K mg base (CX1 l.prog w) 5 "goes_round" (spB (sp_goes_round K) (spx_goes_round K mg)) := Fc.or (Fc.of0 (Fn.fc G_goes_round)) (Fn.fc (fx_goes_round (P := l.prog) (w := w) (base := base) B G_refuse_no_setting GB_refuse_no_setting A_goes_round))
  have G_ranks := fn_ranks (P := l.prog) (w := w) (base := base) B G_refuse_no_setting A_ranks
  have GB_ranks : Fc l.prog w K mg base (CX1 l.prog w) 5 "ranks" (spB (sp_ranks K) (spx_ranks K mg)) := Fc.or (Fc.of0 (Fn.fc G_ranks)) (Fn.fc (fx_ranks (P := l.prog) (w := w) (base := base) B G_refuse_no_setting GB_refuse_no_setting A_ranks))
  have G_setting_of := fn_setting_of (P := l.prog) (w := w) (base := base) B G_refuse_no_web A_setting_of
  have GB_setting_of : Fc l.prog w K mg base (CX1 l.prog w) 4 "setting_of" (spB (sp_setting_of K) (spx_setting_of K mg)) := Fc.or (Fc.of0 (Fn.fc G_setting_of)) (Fn.fc (fx_setting_of (P := l.prog) (w := w) (base := base) B G_refuse_no_web GB_refuse_no_web A_setting_of))
  have G_flattest := fn_flattest (P := l.prog) (w := w) (base := base) B G_fewest G_least G_setting_of A_flattest
  have GB_flattest : Fc l.prog w K mg base (CX1 l.prog w) 6 "flattest" (spB (sp_flattest K) (spx_flattest K mg)) := Fc.or (Fc.of0 (Fn.fc G_flattest)) (Fn.fc (fx_flattest (P := l.prog) (w := w) (base := base) B G_fewest G_least G_setting_of GB_fewest GB_least GB_setting_of A_flattest))
  have G_row := fn_row (P := l.prog) (w := w) (base := base) B G_refuse_no_web A_row
  have GB_row : Fc l.prog w K mg base (CX1 l.prog w) 4 "row" (spB (sp_row K) (spx_row K mg)) := Fc.or (Fc.of0 (Fn.fc G_row)) (Fn.fc (fx_row (P := l.prog) (w := w) (base := base) B G_refuse_no_web GB_refuse_no_web A_row))
  have G_worth := fn_worth (P := l.prog) (w := w) (base := base) B A_worth
  have G_settings := fn_settings (P := l.prog) (w := w) (base := base) B G_row G_worth A_settings
  have GB_settings : Fc l.prog w K mg base (CX1 l.prog w) 5 "settings" (spB (sp_settings K) (spx_settings K mg)) := Fc.or (Fc.of0 (Fn.fc G_settings)) (Fn.fc (fx_settings (P := l.prog) (w := w) (base := base) B G_row G_worth GB_row A_settings))
  have G_from_spring := fn_from_spring (P := l.prog) (w := w) (base := base) B G_row A_from_spring
  have GB_from_spring : Fc l.prog w K mg base (CX1 l.prog w) 5 "from_spring" (spB (sp_from_spring K) (spx_from_spring K mg)) := Fc.or (Fc.of0 (Fn.fc G_from_spring)) (Fn.fc (fx_from_spring (P := l.prog) (w := w) (base := base) B G_row GB_row A_from_spring))
  have G_pairs := fn_pairs (P := l.prog) (w := w) (base := base) B G_row G_worth A_pairs
  have GB_pairs : Fc l.prog w K mg base (CX1 l.prog w) 5 "pairs" (spB (sp_pairs K) (spx_pairs K mg)) := Fc.or (Fc.of0 (Fn.fc G_pairs)) (Fn.fc (fx_pairs (P := l.prog) (w := w) (base := base) B G_row G_worth GB_row A_pairs))
  have G_unbroken := fn_unbroken (P := l.prog) (w := w) (base := base) B G_row A_unbroken
  have GB_unbroken : Fc l.prog w K mg base (CX1 l.prog w) 5 "unbroken" (spB (sp_unbroken K) (spx_unbroken K mg)) := Fc.or (Fc.of0 (Fn.fc G_unbroken)) (Fn.fc (fx_unbroken (P := l.prog) (w := w) (base := base) B G_row GB_row A_unbroken))
  have G_shown := fn_shown (P := l.prog) (w := w) (base := base) B G_refuse_no_web A_shown
  have GB_shown : Fc l.prog w K mg base (CX1 l.prog w) 4 "shown" (spB (sp_shown K) (spx_shown K mg)) := Fc.or (Fc.of0 (Fn.fc G_shown)) (Fn.fc (fx_shown (P := l.prog) (w := w) (base := base) B G_refuse_no_web GB_refuse_no_web A_shown))
  have G__law_cell_at := fn__law_cell_at (P := l.prog) (w := w) (base := base) B A__law_cell_at
  have G__law_next := fn__law_next (P := l.prog) (w := w) (base := base) B A__law_next
  have G__law_web_by := fn__law_web_by (P := l.prog) (w := w) (base := base) B G__law_cell_at G__law_next A__law_web_by
  have G__law_spoilt := fn__law_spoilt (P := l.prog) (w := w) (base := base) B A__law_spoilt
  have G__law_first_eight := fn__law_first_eight (P := l.prog) (w := w) (base := base) B G_beside G_fewest G_is_dyeing G_least G_pieces G_row G_shown A__law_first_eight
  have GB__law_first_eight : Fc l.prog w K mg base (CX1 l.prog w) 6 "_law_first_eight" (spB (sp__law_first_eight K) (spx__law_first_eight K mg)) := Fc.or (Fc.of0 (Fn.fc G__law_first_eight)) (Fn.fc (fx__law_first_eight (P := l.prog) (w := w) (base := base) B G_beside G_fewest G_is_dyeing G_least G_pieces G_row G_shown GB_beside GB_fewest GB_is_dyeing GB_least GB_pieces GB_row GB_shown A__law_first_eight))
  have G__law_others := fn__law_others (P := l.prog) (w := w) (base := base) B G_cut G_flattest G_from_spring G_goes_round G_merged G_pairs G_ranks G_setting_of G_settings G_unbroken A__law_others
  have GB__law_others : Fc l.prog w K mg base (CX1 l.prog w) 7 "_law_others" (spB (sp__law_others K) (spx__law_others K mg)) := Fc.or (Fc.of0 (Fn.fc G__law_others)) (Fn.fc (fx__law_others (P := l.prog) (w := w) (base := base) B G_cut G_flattest G_from_spring G_goes_round G_merged G_pairs G_ranks G_setting_of G_settings G_unbroken GB_cut GB_flattest GB_from_spring GB_goes_round GB_merged GB_pairs GB_ranks GB_setting_of GB_settings GB_unbroken A__law_others))
  exact ok_law (P := l.prog) (w := w) (base := base) B G__law_cell_at G__law_first_eight G__law_next G__law_others G__law_spoilt G__law_web_by GB__law_first_eight GB__law_others (fun_mk (st := s_law) l30 c30 k30)
theorem walk {l : PySem.W.OpenLaw} {q : Program} {loose : List Str} {XP : (Str → Option Value) → Heap → Prop} {YP : World → Heap → Prop} {d : DefRec} {K : Params → PySem.W.Frag} (hn : l.most = some 63) (hdf : d.params.defaults = [])
    (hY : ∀ (w : World) (h : Heap), YP w h → (K w.params).In h)
    (F : ∀ (w : World) (mg : Str → Option Value) (fa : Addr) (h : Heap), (K w.params).In h → h.Ns mainGlobals mg → mg d.name = some (.ref fa) →
      ∃ fd : FuncData, (∀ (s : Shared) (u : Value), BindsTo s fd ⟨[u], []⟩ [("script", u)]) ∧ ∀ base : Heap, (K w.params).In base → base.Ns mainGlobals mg → FnOk l.prog w (K w.params) mg base CX0 8 fa fd ["script"] (sp_lawT (K w.params))) :
    PySem.W.WalkO q loose XP YP l.row.toRowW d [] (fun f vs => PySem.call f vs) :=
  L2.walk_of (n := 63) (k := 8) (x := "script") (CX := fun _ => CX0) (sp := fun w => sp_lawT (K w.params)) hn (by decide) hdf ⟨rfl, by decide, by decide⟩ hY F (fun _ _ a ns hl _ hS => ⟨a, ns, rfl, hS, hl, fun _ => rfl⟩) fun _ _ _ _ _ z => z
end Toy
open PySem PySem.W PyProof.Rows
set_option maxRecDepth 100000 in
set_option maxHeartbeats 0 in
theorem PySem.Challenge.cw_dyeweb_k18_no_web_holds : PySem.Challenge.rw_dyeweb_k18_no_web.Holds := by
  w_on; o_law; k_head; (case hw => w_witness2)
  k_fill
  refine Toy.walk (l := PySem.Challenge.rw_dyeweb_k18_no_web) rfl rfl (fun w h Y => PySem.W.kIn_of Y) ?F
  case F =>
    intro w mg fa h KX G hmg
    refine' Toy.all_mk KX G hmg ?a1 ?l1 ?c1 ?k1 ?a2 ?l2 ?c2 ?k2 ?a3 ?l3 ?c3 ?k3 ?a4 ?l4 ?c4 ?k4 ?a5 ?l5 ?c5 ?k5 ?a6 ?l6 ?c6 ?k6 ?a7 ?l7 ?c7 ?k7 ?a8 ?l8 ?c8 ?k8 ?a9 ?l9 ?c9 ?k9 ?a10 ?l10 ?c10 ?k10 ?a11 ?l11 ?c11 ?k11 ?a12 ?l12 ?c12 ?k12 ?a13 ?l13 ?c13 ?k13 ?a14 ?l14 ?c14 ?k14 ?a15 ?l15 ?c15 ?k15 ?a16 ?l16 ?c16 ?k16 ?a17 ?l17 ?c17 ?k17 ?a18 ?l18 ?c18 ?k18 ?a19 ?l19 ?c19 ?k19 ?a20 ?l20 ?c20 ?k20 ?a21 ?l21 ?c21 ?k21 ?a22 ?l22 ?c22 ?k22 ?a23 ?l23 ?c23 ?k23 ?a24 ?l24 ?c24 ?k24 ?a25 ?l25 ?c25 ?k25 ?a26 ?l26 ?c26 ?k26 ?a27 ?l27 ?c27 ?k27 ?a28 ?l28 ?c28 ?k28 ?a29 ?l29 ?c29 ?k29 ?a30 ?l30 ?c30 ?k30 ?z1 ?z2 ?z3 ?z4 ?z5 ?z6 ?z7 ?z8 ?z9 ?y1 ?y2 ?n_cx0 ?e_cx0 ?n_cx1 ?e_cx1 ?n_cx2 ?e_cx2 ?n_cx3 ?e_cx3 ?n_cx4 ?e_cx4 ?n_cx5 ?e_cx5 ?n_cx6 ?e_cx6 ?t_cx1 ?t_cx2 ?t_cx3 ?t_cx4 ?t_cx5 ?t_cx6 ?ga_cx6 ?gt_cx6 ?cl_cx6 ?sw_cx6 ?sv_cx6 ?ss_cx6 ?sd_cx6_cx1 ?sd_cx6_cx2 ?sd_cx6_cx3 ?sd_cx6_cx4 ?sd_cx6_cx5 ?sd_cx6_cx6
    (case a1 => k_is)
    (case l1 => k_is)
    (case c1 => k_is)
    (case k1 => k_is)
    (case a2 => k_is)
    (case l2 => k_is)
    (case c2 => k_is)
    (case k2 => k_is)
    (case a3 => k_is)
    (case l3 => k_is)
    (case c3 => k_is)
    (case k3 => k_is)
    (case a4 => k_is)
    (case l4 => k_is)
    (case c4 => k_is)
    (case k4 => k_is)
    (case a5 => k_is)
    (case l5 => k_is)
    (case c5 => k_is)
    (case k5 => k_is)
    (case a6 => k_is)
    (case l6 => k_is)
    (case c6 => k_is)
    (case k6 => k_is)
    (case a7 => k_is)
    (case l7 => k_is)
    (case c7 => k_is)
    (case k7 => k_is)
    (case a8 => k_is)
    (case l8 => k_is)
    (case c8 => k_is)
    (case k8 => k_is)
    (case a9 => k_is)
    (case l9 => k_is)
    (case c9 => k_is)
    (case k9 => k_is)
    (case a10 => k_is)
    (case l10 => k_is)
    (case c10 => k_is)
    (case k10 => k_is)
    (case a11 => k_is)
    (case l11 => k_is)
    (case c11 => k_is)
    (case k11 => k_is)
    (case a12 => k_is)
    (case l12 => k_is)
    (case c12 => k_is)
    (case k12 => k_is)
    (case a13 => k_is)
    (case l13 => k_is)
    (case c13 => k_is)
    (case k13 => k_is)
    (case a14 => k_is)
    (case l14 => k_is)
    (case c14 => k_is)
    (case k14 => k_is)
    (case a15 => k_is)
    (case l15 => k_is)
    (case c15 => k_is)
    (case k15 => k_is)
    (case a16 => k_is)
    (case l16 => k_is)
    (case c16 => k_is)
    (case k16 => k_is)
    (case a17 => k_is)
    (case l17 => k_is)
    (case c17 => k_is)
    (case k17 => k_is)
    (case a18 => k_is)
    (case l18 => k_is)
    (case c18 => k_is)
    (case k18 => k_is)
    (case a19 => k_is)
    (case l19 => k_is)
    (case c19 => k_is)
    (case k19 => k_is)
    (case a20 => k_is)
    (case l20 => k_is)
    (case c20 => k_is)
    (case k20 => k_is)
    (case a21 => k_is)
    (case l21 => k_is)
    (case c21 => k_is)
    (case k21 => k_is)
    (case a22 => k_is)
    (case l22 => k_is)
    (case c22 => k_is)
    (case k22 => k_is)
    (case a23 => k_is)
    (case l23 => k_is)
    (case c23 => k_is)
    (case k23 => k_is)
    (case a24 => k_is)
    (case l24 => k_is)
    (case c24 => k_is)
    (case k24 => k_is)
    (case a25 => k_is)
    (case l25 => k_is)
    (case c25 => k_is)
    (case k25 => k_is)
    (case a26 => k_is)
    (case l26 => k_is)
    (case c26 => k_is)
    (case k26 => k_is)
    (case a27 => k_is)
    (case l27 => k_is)
    (case c27 => k_is)
    (case k27 => k_is)
    (case a28 => k_is)
    (case l28 => k_is)
    (case c28 => k_is)
    (case k28 => k_is)
    (case a29 => k_is)
    (case l29 => k_is)
    (case c29 => k_is)
    (case k29 => k_is)
    (case a30 => k_is)
    (case l30 => k_is)
    (case c30 => k_is)
    (case k30 => k_is)
    (case z1 => k_is)
    (case z2 => k_is)
    (case z3 => k_is)
    (case z4 => k_is)
    (case z5 => k_is)
    (case z6 => k_is)
    (case z7 => k_is)
    (case z8 => k_is)
    (case z9 => k_is)
    (case y1 => k_is)
    (case y2 => k_is)
    (case n_cx0 => k_is)
    (case e_cx0 => k_exc)
    (case n_cx1 => k_is)
    (case e_cx1 => k_exc)
    (case n_cx2 => k_is)
    (case e_cx2 => k_exc)
    (case n_cx3 => k_is)
    (case e_cx3 => k_exc)
    (case n_cx4 => k_is)
    (case e_cx4 => k_exc)
    (case n_cx5 => k_is)
    (case e_cx5 => k_exc)
    (case n_cx6 => k_is)
    (case e_cx6 => k_exc)
    (case t_cx1 => k_is)
    (case t_cx2 => k_is)
    (case t_cx3 => k_is)
    (case t_cx4 => k_is)
    (case t_cx5 => k_is)
    (case t_cx6 => k_is)
    (case ga_cx6 => k_is)
    (case gt_cx6 => k_is)
    (case cl_cx6 => k_is)
    (case sw_cx6 => k_is)
    (case sv_cx6 => k_is)
    (case ss_cx6 => k_is)
    (case sd_cx6_cx1 => k_is)
    (case sd_cx6_cx2 => k_is)
    (case sd_cx6_cx3 => k_is)
    (case sd_cx6_cx4 => k_is)
    (case sd_cx6_cx5 => k_is)
    (case sd_cx6_cx6 => k_is)

