import PyProof.Rows.All
import Wide.All
import OpenK.AllK
import Wide.FinOn
import Lean
import PyProof.EqAt
import PyProof.EqKinds
import PyProof.TupleCall
import PySem.Challenge.RW_marblerun_k24_whole_read_back
set_option Elab.async false
set_option linter.all false
set_option maxRecDepth 100000
namespace L2
open PySem PySem.Spec PyProof.Rows

/-- a key: an int or a str -/
abbrev Key := Sum Int Str
def keyIs : Key → Value → Bool
  | .inl k, v => Value.isInt k v
  | .inr x, v => Value.isStrOf x v
def keyH (w : World) : Key → Int
  | .inl k => hashInt k
  | .inr x => hashStr w x
theorem keyIs_shape : ∀ {k : Key} {v : Value}, keyIs k v = true → (∃ i t, k = Sum.inl i ∧ v = Value.int i t) ∨ (∃ x t, k = Sum.inr x ∧ v = Value.str x t)
  | .inl i, v, h => by
    obtain ⟨t, e⟩ := Value.isInt_shape (k := i) (v := v) h
    exact .inl ⟨i, t, rfl, e⟩
  | .inr x, v, h => by
    obtain ⟨t, e⟩ := Value.isStrOf_shape (x := x) (v := v) h
    exact .inr ⟨x, t, rfl, e⟩
theorem key_ll (a b : Int) : decide ((Sum.inl a : Key) = Sum.inl b) = (a == b) := by
  by_cases e : a = b
  · subst e; simp
  · have h : ¬ (Sum.inl a : Key) = Sum.inl b := fun q => e (Sum.inl.inj q)
    rw [decide_eq_false h]
    exact (beq_eq_false_iff_ne.mpr e).symm
theorem key_rr (a b : Str) : decide ((Sum.inr a : Key) = Sum.inr b) = decide (a = b) := by
  by_cases e : a = b
  · subst e; simp
  · have h : ¬ (Sum.inr a : Key) = Sum.inr b := fun q => e (Sum.inr.inj q)
    rw [decide_eq_false h, decide_eq_false e]
theorem key_lr (a : Int) (b : Str) : decide ((Sum.inl a : Key) = Sum.inr b) = false := decide_eq_false (fun q => nomatch q)
theorem key_rl (a : Str) (b : Int) : decide ((Sum.inr a : Key) = Sum.inl b) = false := decide_eq_false (fun q => nomatch q)

def mixKind (prog : Program) (w : World) : PySem.KeyKind prog w Key where
  is := keyIs
  hash := keyH w
  inj := fun v a b ha hb => by
    rcases keyIs_shape ha with ⟨i, t, rfl, rfl⟩ | ⟨x, t, rfl, rfl⟩
    · rcases keyIs_shape hb with ⟨j, u, rfl, e⟩ | ⟨y, u, rfl, e⟩
      · injection e with e1 _; rw [e1]
      · exact nomatch e
    · rcases keyIs_shape hb with ⟨j, u, rfl, e⟩ | ⟨y, u, rfl, e⟩
      · exact nomatch e
      · injection e with e1 _; rw [e1]
  byValue := fun k v h => by
    rcases keyIs_shape h with ⟨i, t, rfl, rfl⟩ | ⟨x, t, rfl, rfl⟩ <;> rfl
  pyHash := fun hv h => by
    rcases keyIs_shape hv with ⟨i, t, rfl, rfl⟩ | ⟨x, t, rfl, rfl⟩
    · exact wpAny_pyHash_int h
    · exact wpAny_pyHash_str h
  eqBool := fun hu hv h => by
    rcases keyIs_shape hu with ⟨i, t, rfl, rfl⟩ | ⟨x, t, rfl, rfl⟩
    · rcases keyIs_shape hv with ⟨j, u, rfl, rfl⟩ | ⟨y, u, rfl, rfl⟩
      · rw [key_ll] at h; exact wpAny_eqBool_int h
      · rw [key_lr] at h; exact SeqAt.EqAt.int_str i t y u _ _ _ _ h
    · rcases keyIs_shape hv with ⟨j, u, rfl, rfl⟩ | ⟨y, u, rfl, rfl⟩
      · rw [key_rl] at h; exact SeqAt.EqAt.str_int x t j u _ _ _ _ h
      · rw [key_rr] at h; exact wpAny_eqBool_str h
  «strs» := fun k x t v h => by
    rcases keyIs_shape h with ⟨i, u, rfl, e⟩ | ⟨y, u, rfl, e⟩
    · exact nomatch e
    · injection e with e1 _
      subst e1
      cases v <;> rfl

end L2

namespace L2
open PySem PySem.Spec PyProof.Rows

/-- a value, without the heap -/
inductive V where
  | non | bl (b : Bool) | int (i : Int) | str (x : Str) | byt (b : Array UInt8) | flt (b : UInt64) | ref (a : Addr) | ty (n : String)
  deriving DecidableEq

def RelV : V → Value → Prop
  | .non, u => u = Value.none
  | .bl b, u => u = Value.bool b
  | .int i, u => ∃ t, u = Value.int i t
  | .str x, u => ∃ t, u = Value.str x t
  | .byt b, u => ∃ t, u = Value.bytes b t
  | .flt b, u => ∃ t, u = Value.float b t
  | .ref a, u => u = Value.ref a
  | .ty n, u => u = Value.type n

abbrev Vals : List V → List Value → Prop := Paired RelV
theorem Vals.length {xs : List V} {us : List Value} (r : Vals xs us) : xs.length = us.length := Paired.length r
theorem Vals.get : ∀ {xs : List V} {us : List Value} {i : Nat} {x : V}, Vals xs us → xs[i]? = some x → ∃ u, us[i]? = some u ∧ RelV x u
  | _, _, _, _, .nil, e => by simp at e
  | _, _, 0, _, .cons r _, e => by simp at e; subst e; exact ⟨_, rfl, r⟩
  | _, _, i + 1, x, .cons _ t, e => by
    obtain ⟨u, h1, h2⟩ := Vals.get (i := i) (x := x) t (by simpa using e)
    exact ⟨u, by simpa using h1, h2⟩
theorem Vals.set {x : V} {u : Value} (r : RelV x u) : ∀ {xs : List V} {us : List Value} (i : Nat), Vals xs us → Vals (xs.set i x) (us.set i u)
  | _, _, _, .nil => .nil
  | _, _, 0, .cons _ t => .cons r t
  | _, _, i + 1, .cons q t => .cons q (Vals.set r i t)
theorem Vals.append : ∀ {xs ys : List V} {us ws : List Value}, Vals xs us → Vals ys ws → Vals (xs ++ ys) (us ++ ws)
  | _, _, _, _, .nil, s => s
  | _, _, _, _, .cons r t, s => .cons r (Vals.append t s)
theorem Vals.take : ∀ {xs : List V} {us : List Value} (n : Nat), Vals xs us → Vals (xs.take n) (us.take n)
  | _, _, 0, _ => .nil
  | _, _, _ + 1, .nil => .nil
  | _, _, n + 1, .cons r t => .cons r (Vals.take n t)
theorem Vals.drop : ∀ {xs : List V} {us : List Value} (n : Nat), Vals xs us → Vals (xs.drop n) (us.drop n)
  | _, _, 0, r => r
  | _, _, _ + 1, .nil => .nil
  | _, _, n + 1, .cons _ t => Vals.drop n t
def RelO : Option V → Option Value → Prop
  | some v, some u => RelV v u
  | none, none => True
  | _, _ => False
def KV {κ : Type} : List (κ × V) → List (κ × Value) → Prop := Paired fun (p : κ × V) (q : κ × Value) => p.1 = q.1 ∧ RelV p.2 q.2

/-- a key of a dict (00_mix): an int or a text -/
def kV : Key → V
  | .inl i => .int i
  | .inr x => .str x

/-- what stands at a tracked address -/
inductive HO where
  /-- a list -/
  | lst (xs : List V)
  /-- a tuple (never changes) -/
  | tup (xs : List V)
  /-- a dict whose keys are ints and texts; one whose keys are tuples of ints and texts (the empty one is both) -/
  | dK (kvs : List (Key × V)) | dT (kvs : List (List Key × V))
  /-- a set of ints: its members, its size -/
  | set (S : Int → Bool) (n : Nat)
  /-- an instance of the class at C, its dict at dx, its attributes -/
  | ins (C dx : Addr) (fs : List (Str × V))
  /-- the dict of the instance at x -/
  | own (x : Addr)
  /-- the dict of an exception -/
  | xd (fs : List (Str × V))
  /-- a bound method, f of x -/
  | met (f x : Addr)
  /-- a range object lo, lo + 1, .. below hi -/
  | rng (lo hi : Int)
  /-- a thing that is known to the object (the script; a dict while a loop walks it): read, never written while it is so -/
  | frz (o : Obj) (u : HO)
  /-- a code object's table -/
  | tbl (ps : Array Value)
  /-- any other thing, by what is true of its one object (a def of one's own: SetO a S n := HO.ext fun h => ..) -/
  | ext (φ : Heap → Prop)

abbrev Hp := Addr → Option HO
def upd (H : Hp) (a : Addr) (o : HO) : Hp := fun b => if b = a then some o else H b
theorem upd_same {H : Hp} {a : Addr} {o : HO} : upd H a o a = some o := by unfold upd; rw [if_pos rfl]
theorem upd_ne {H : Hp} {a b : Addr} {o : HO} (h : b ≠ a) : upd H a o b = H b := by unfold upd; rw [if_neg h]
theorem upd_upd {H : Hp} {a : Addr} {o u : HO} : upd (upd H a o) a u = upd H a u := by
  funext b; unfold upd; split <;> rfl
/-- two objects of different content stand apart -/
theorem ne_of {H : Hp} {a b : Addr} {o u : HO} (h : H a = some o) (h' : H b = some u) (d : o ≠ u) : a ≠ b := by
  intro e; subst e; rw [h] at h'; exact d (Option.some.inj h')
theorem ne_of_none {H : Hp} {a b : Addr} {o : HO} (h : H a = some o) (h' : H b = none) : a ≠ b := by
  intro e; subst e; rw [h] at h'; cases h'

section
variable (P : Program) (w : World)
def ObjOk (H : Hp) (h : Heap) (a : Addr) : HO → Prop
  | .lst xs => xs.length ≤ sizeLine ∧ ∃ (its : List Value) (n : Nat), Vals xs its ∧ h.get? a = some { cls := .type "list", data := .seq its.toArray n }
  | .tup xs => xs.length ≤ sizeLine ∧ ∃ its : List Value, Vals xs its ∧ IsTup h a its.toArray
  | .dK kvs => kvs.length ≤ sizeLine ∧ (a == sysModules) = false ∧ ∃ vs, KV kvs vs ∧ h.DictOf (mixKind P w) a vs
  | .dT kvs => kvs.length ≤ sizeLine ∧ (a == sysModules) = false ∧ ∃ xs : List (List Key × Addr × Value),
      Paired (fun (p : List Key × V) (q : List Key × Addr × Value) => p.1 = q.1 ∧ H q.2.1 = some (.tup (p.1.map kV)) ∧ RelV p.2 q.2.2) kvs xs ∧
      ∃ o es ep, h.get? a = some o ∧ o.ExactDict ∧ o.data = .dict es ep ∧ es.toList = xs.map (entryOfKey (tupleKind (mixKind P w))) ∧ (xs.map (·.1)).Nodup
  | .set S n => h.SetOf (intKind P w) a S n
  | .ins C dx fs => H dx = some (.own a) ∧ fs.length ≤ 1000 ∧ dx ≠ a ∧ h.get? a = some (PySem.W.instObj C dx) ∧
      ∃ mA, h.Ns1 dx mA ∧ (∀ f, RelO (fs.lookup f) (mA f)) ∧ PySem.Within mA (fs.map (·.1))
  | .own _ => ∃ o, h.get? a = some o
  | .xd fs => ∃ mA, h.Ns1 a mA ∧ ∀ f, RelO (fs.lookup f) (mA f)
  | .rng lo hi => ∃ t u v, h.get? a = some { cls := .type "range", data := .fields #[.int lo t, .int hi u, .int 1 v] }
  | .frz o u => h.get? a = some o ∧ ObjOk H h a u
  | .tbl ps => h.get? a = some { cls := .none, data := .fields ps }
  | .met f x => h.get? a = some (PySem.W.methodObj (.ref f) (.ref x))
  | .ext φ => φ h ∧ (∃ o, h.get? a = some o) ∧ ∀ h1 h2 : Heap, φ h1 → (∀ o, h1.get? a = some o → h2.get? a = some o) → φ h2
/-- the abstract heap is held -/
def HOk (H : Hp) (h : Heap) : Prop := ∀ a o, H a = some o → ObjOk P w H h a o
end

section
variable {P : Program} {w : World} {H H' : Hp} {h h' : Heap} {a : Addr} {o : HO}
theorem ObjOk.lt (x : ObjOk P w H h a o) : a < h.objs.size := by
  cases o with
  | lst xs => obtain ⟨_, _, _, _, e⟩ := x; exact Heap.lt_size e
  | tup xs => obtain ⟨_, _, _, p⟩ := x; exact p.lt
  | dK kvs => obtain ⟨_, _, _, _, o, _, _, e, _⟩ := x; exact Heap.lt_size e
  | dT kvs => obtain ⟨_, _, _, _, o, _, _, e, _⟩ := x; exact Heap.lt_size e
  | set S n => obtain ⟨o, _, _, _, e, _⟩ := x; exact Heap.lt_size e
  | ins C dx fs => obtain ⟨_, _, _, e, _⟩ := x; exact Heap.lt_size e
  | own y => obtain ⟨_, e⟩ := x; exact Heap.lt_size e
  | xd fs => obtain ⟨_, ⟨_, _, _, e, _⟩, _⟩ := x; exact Heap.lt_size e
  | rng lo hi => obtain ⟨_, _, _, e⟩ := x; exact Heap.lt_size e
  | frz ob u => obtain ⟨e, _⟩ := x; exact Heap.lt_size e
  | tbl ps => exact Heap.lt_size (show h.get? a = some _ from x)
  | met f y => exact Heap.lt_size (show h.get? a = some _ from x)
  | ext φ => obtain ⟨_, ⟨_, e⟩, _⟩ := x; exact Heap.lt_size e
theorem Paired.mapP {α β : Type} {F G : α → β → Prop} : ∀ {l₁ : List α} {l₂ : List β}, Paired F l₁ l₂ → (∀ a b, F a b → G a b) → Paired G l₁ l₂
  | _, _, .nil, _ => .nil
  | _, _, .cons r t, f => .cons (f _ _ r) (Paired.mapP t f)
/-- what an object's description leans on: its own object, its own dict, the tuples -/
theorem ObjOk.stay (x : ObjOk P w H h a o) (k : ∀ b u, (b = a ∨ H b = some (.own a)) → h.get? b = some u → h'.get? b = some u)
    (ho : ∀ b, H b = some (.own a) → H' b = some (.own a)) (ht : ∀ b xs, H b = some (.tup xs) → H' b = some (.tup xs)) : ObjOk P w H' h' a o := by
  induction o with
  | lst xs => obtain ⟨z, its, n, r, e⟩ := x; exact ⟨z, its, n, r, k _ _ (.inl rfl) e⟩
  | tup xs => obtain ⟨z, its, r, ob, e, c⟩ := x; exact ⟨z, its, r, ob, k _ _ (.inl rfl) e, c⟩
  | dK kvs => obtain ⟨z, y, vs, r, ob, es, ep, e, c⟩ := x; exact ⟨z, y, vs, r, ob, es, ep, k _ _ (.inl rfl) e, c⟩
  | dT kvs =>
    obtain ⟨z, y, xs, r, ob, es, ep, e, c⟩ := x
    exact ⟨z, y, xs, Paired.mapP r fun p q z => ⟨z.1, ht _ _ z.2.1, z.2.2⟩, ob, es, ep, k _ _ (.inl rfl) e, c⟩
  | set S n => obtain ⟨ob, es, ep, t, e, c⟩ := x; exact ⟨ob, es, ep, t, k _ _ (.inl rfl) e, c⟩
  | ins C dx fs =>
    obtain ⟨d, z, ne, e, mA, ⟨od, es, ep, e2, c⟩, r⟩ := x
    exact ⟨ho _ d, z, ne, k _ _ (.inl rfl) e, mA, ⟨od, es, ep, k _ _ (.inr d) e2, c⟩, r⟩
  | own y => obtain ⟨ob, e⟩ := x; exact ⟨ob, k _ _ (.inl rfl) e⟩
  | xd fs => obtain ⟨mA, ⟨od, es, ep, e, c⟩, r⟩ := x; exact ⟨mA, ⟨od, es, ep, k _ _ (.inl rfl) e, c⟩, r⟩
  | rng lo hi => obtain ⟨t, u, v, e⟩ := x; exact ⟨t, u, v, k _ _ (.inl rfl) e⟩
  | frz ob u ih => obtain ⟨e, q⟩ := x; exact ⟨k _ _ (.inl rfl) e, ih q⟩
  | tbl ps =>
    have e : h.get? a = some { cls := .none, data := .fields ps } := x
    show h'.get? a = some { cls := .none, data := .fields ps }
    exact k a _ (.inl rfl) e
  | met f y =>
    have e : h.get? a = some (PySem.W.methodObj (.ref f) (.ref y)) := x
    show h'.get? a = some (PySem.W.methodObj (.ref f) (.ref y))
    exact k a _ (.inl rfl) e
  | ext φ => obtain ⟨p, ⟨o, e⟩, st⟩ := x; exact ⟨st _ _ p fun o q => k _ _ (.inl rfl) q, ⟨o, k _ _ (.inl rfl) e⟩, st⟩
theorem HOk.lt (x : HOk P w H h) (e : H a = some o) : a < h.objs.size := (x a o e).lt
theorem HOk.fresh (x : HOk P w H h) (e : h.objs.size ≤ a) : H a = none := by
  cases q : H a with
  | none => rfl
  | some u => exact absurd (Nat.lt_of_lt_of_le (x.lt q) e) (Nat.lt_irrefl _)
/-- every object of the heap is kept -/
theorem HOk.kept (x : HOk P w H h) (k : ∀ b u, h.get? b = some u → h'.get? b = some u) : HOk P w H h' := fun a o e =>
  (x a o e).stay (fun b u _ q => k b u q) (fun _ q => q) fun _ _ q => q
/-- a new object is laid and tracked -/
theorem HOk.laid (x : HOk P w H h) (k : ∀ b u, h.get? b = some u → h'.get? b = some u) (hp : h.objs.size ≤ a) (new : ObjOk P w (upd H a o) h' a o) : HOk P w (upd H a o) h' := fun b u e => by
  have hn := x.fresh hp
  by_cases hb : b = a
  · subst hb; rw [upd_same] at e; cases e; exact new
  · rw [upd_ne hb] at e
    exact (x b u e).stay (fun c v _ q => k c v q) (fun c q => by rw [upd_ne (ne_of_none q hn)]; exact q) fun c xs q => by rw [upd_ne (ne_of_none q hn)]; exact q
end

/-- what may be read as u: it is u, or a known u -/
def Rd (H : Hp) (a : Addr) (u : HO) : Prop := H a = some u ∨ ∃ o, H a = some (.frz o u)
theorem Rd.ok {P : Program} {w : World} {H : Hp} {h : Heap} {a : Addr} {u : HO} (r : Rd H a u) (x : HOk P w H h) : ObjOk P w H h a u := by
  rcases r with r | ⟨o, r⟩
  · exact x a u r
  · obtain ⟨_, q⟩ := x a _ r
    exact q
/-- what may be written -/
def Mut : Option HO → Prop
  | some (.lst _) => True
  | some (.dK _) => True
  | some (.dT _) => True
  | some (.set _ _) => True
  | some (.ins _ _ _) => True
  | some (.ext _) => True
  | _ => False
section
variable {P : Program} {w : World} {H : Hp} {h h' : Heap} {x e : Addr} {o' : HO}
/-- the object at e is changed: x itself, or the dict of the instance x -/
theorem HOk.write (ok : HOk P w H h) (mu : Mut (H x)) (he : e = x ∨ H e = some (.own x)) (k : ∀ b u, b ≠ e → h.get? b = some u → h'.get? b = some u) (heo : ∃ u, h'.get? e = some u)
    (new : ObjOk P w (upd H x o') h' x o') : HOk P w (upd H x o') h' := fun b u q => by
  have nown : ∀ c y, H c = some (.own y) → c ≠ x := fun c y r z => by subst z; rw [r] at mu; exact mu
  have ntup : ∀ c xs, H c = some (.tup xs) → c ≠ x := fun c xs r z => by subst z; rw [r] at mu; exact mu
  by_cases hb : b = x
  · subst hb; rw [upd_same] at q; cases q; exact new
  · rw [upd_ne hb] at q
    by_cases hbe : b = e
    · have q' : H b = some (.own x) := by
        rcases he with z | z
        · exact absurd (hbe.trans z) hb
        · rw [hbe]; exact z
      rw [q] at q'; cases q'
      obtain ⟨v, hv⟩ := heo
      exact ⟨v, by rw [hbe]; exact hv⟩
    · refine (ok b u q).stay (fun c v hc r => k c v ?_ r) (fun c r => by rw [upd_ne (nown c b r)]; exact r) fun c xs r => by rw [upd_ne (ntup c xs r)]; exact r
      rcases hc with rfl | hc
      · exact hbe
      · rintro rfl
        rcases he with z | z
        · exact nown c b hc z
        · rw [hc] at z; cases z; exact hb rfl
end

structure Un (fs ex : List Addr) (H H' : Hp) (h h' : Heap) : Prop where
  keep : ∀ b o, h.get? b = some o → H b = none → b ∉ fs → b ∉ ex → h'.get? b = some o
  slot : ∀ b o, h.get? b = some o → H b = none → b ∈ fs → b ∉ ex → ∃ sl, h'.get? b = some { o with slots := sl }
  free : ∀ b o, h.get? b = some o → H b = none → b ∉ ex → H' b = none
  there : ∀ b o, h.get? b = some o → b ∉ ex → ∃ o', h'.get? b = some o'
  tups : ∀ b xs, H b = some (.tup xs) → H' b = some (.tup xs)
  frzs : ∀ b o u, H b = some (.frz o u) → H' b = some (.frz o u)
  tbls : ∀ b ps, H b = some (.tbl ps) → ∃ more, H' b = some (.tbl (ps ++ more))
section
variable {fs fs' ex ex' : List Addr} {H H1 H2 : Hp} {h h1 h2 h' : Heap} {a x e : Addr} {o : HO}
theorem Un.any (u : Un fs ex H H1 h h1) {b : Addr} {ob : Obj} (q : h.get? b = some ob) (n : H b = none) (hx : b ∉ ex) : ∃ sl, h1.get? b = some { ob with slots := sl } := by
  by_cases hb : b ∈ fs
  · exact u.slot b ob q n hb hx
  · exact ⟨ob.slots, u.keep b ob q n hb hx⟩
theorem Un.kept (k : ∀ b u, h.get? b = some u → h'.get? b = some u) : Un fs ex H H h h' :=
  ⟨fun b ob q _ _ _ => k b ob q, fun b ob q _ _ _ => ⟨ob.slots, k b ob q⟩, fun _ _ _ n _ => n, fun b ob q _ => ⟨ob, k b ob q⟩, fun _ _ q => q, fun _ _ _ q => q, fun _ ps q => ⟨#[], by rw [q]; simp⟩⟩
theorem Un.refl : Un fs ex H H h h := Un.kept fun _ _ q => q
theorem Un.laid (k : ∀ b u, h.get? b = some u → h'.get? b = some u) (hp : h.objs.size ≤ a) (hn : H a = none) : Un fs ex H (upd H a o) h h' where
  keep := fun b u q _ _ _ => k b u q
  slot := fun b u q _ _ _ => ⟨u.slots, k b u q⟩
  free := fun b u q n _ => by rw [upd_ne (Nat.ne_of_lt (Nat.lt_of_lt_of_le (Heap.lt_size q) hp))]; exact n
  there := fun b u q _ => ⟨u, k b u q⟩
  tups := fun b xs q => by rw [upd_ne (ne_of_none q hn)]; exact q
  frzs := fun b u xs q => by rw [upd_ne (ne_of_none q hn)]; exact q
  tbls := fun b ps q => ⟨#[], by rw [upd_ne (ne_of_none q hn), q]; simp⟩
theorem Un.write (mu : Mut (H x)) (he : e = x ∨ H e = some (.own x)) (k : ∀ b u, b ≠ e → h.get? b = some u → h'.get? b = some u) (heo : ∃ u, h'.get? e = some u) : Un fs ex H (upd H x o) h h' := by
  have hx : ∀ b, H b = none → b ≠ x := fun b n z => by subst z; rw [n] at mu; exact mu
  have hb : ∀ b, H b = none → b ≠ e := fun b n z => by
    subst z
    rcases he with r | r
    · exact hx b n r
    · rw [n] at r; cases r
  have hm : ∀ b u, H b = some u → ¬ Mut (some u) → b ≠ x := fun b u q nm z => by subst z; rw [q] at mu; exact nm mu
  refine ⟨fun b u q n _ _ => k b u (hb b n) q, fun b u q n _ _ => ⟨u.slots, k b u (hb b n) q⟩, fun b u q n _ => by rw [upd_ne (hx b n)]; exact n, fun b u q _ => ?_,
    fun b xs q => by rw [upd_ne (hm b _ q fun z => z)]; exact q, fun b u xs q => by rw [upd_ne (hm b _ q fun z => z)]; exact q, fun b ps q => ⟨#[], by rw [upd_ne (hm b _ q fun z => z), q]; simp⟩⟩
  by_cases hbe : b = e
  · subst hbe; exact heo
  · exact ⟨u, k b u hbe q⟩
end

def trk (h : Heap) (H : Hp) : List Addr := (List.range h.objs.size).filter fun a => (H a).isSome
def hidT (h : Heap) (H : Hp) : Heap := PySem.W.hideAll h (trk h H)
theorem hidT_size (h : Heap) (H : Hp) : (hidT h H).objs.size = h.objs.size := PySem.W.hideAll_size _ _
theorem hidT_get {h : Heap} {H : Hp} {b : Addr} {o : Obj} (e : h.get? b = some o) (n : H b = none) : (hidT h H).get? b = some o :=
  PySem.W.hideAll_get _ e fun hm => by
    have q : (H b).isSome = true := (List.mem_filter.mp hm).2
    rw [n] at q; simp at q
theorem of_hidT {h : Heap} {H : Hp} {b : Addr} {o : Obj} (e : (hidT h H).get? b = some o) : h.get? b = some o ∧ H b = none := by
  have e' : h.get? b = some o := PySem.W.of_hideAll (trk h H) e
  refine ⟨e', ?_⟩
  cases q : H b with
  | none => rfl
  | some x =>
    have hm : b ∈ trk h H := List.mem_filter.mpr ⟨List.mem_range.mpr (Heap.lt_size e'), by simp [q]⟩
    have z : (hidT h H).get? b = none := PySem.W.hideAll_none (trk h H) hm
    rw [z] at e; cases e

end L2

namespace L2
open PySem PySem.Spec PyProof.Rows

/-- the module's facts, over the base: the heap at the law's entry without what is tracked there -/
structure Mod (K : PySem.W.Frag) (mg : Str → Option Value) (base : Heap) : Prop where
  kin : K.In base
  glob : base.Ns mainGlobals mg
  blt : ∃ mb, base.Ns builtinsNs mb ∧ ∀ x : Str, x ≠ "__name__" → mb x = bootBuiltins x
  nolimit : base.NoLimit

/-- the context: a def's body (or a comprehension's block) running. base: fixed through the whole law; s₀, H₀: the entry; outer: the frames whose slots others may change (a def's callers); stack: all frames that run;
   ex: iterators that were made ahead of the entry and are walked here (a comprehension's); fn: the names whose cells were made at the entry (a def: all; a comprehension's block: its own); calm: not within an except suite; pn: pins that every state bears; xe: what is wanted of an exception that leaves the code -/
structure Cx where
  prog : Program
  w : World
  K : PySem.W.Frag
  mg : Str → Option Value
  base : Heap
  A : Around
  N : List Str
  s₀ : Shared
  H₀ : Hp
  env : Env
  outer : List Env
  stack : List Env
  ex : List Addr
  fn : Str → Bool
  calm : Bool
  pn : List (Addr × Obj)
  xe : Value → Shared → Prop
/-- the callers' frames -/
def frs (l : List Env) : List Addr := l.filterMap (·.frame)
abbrev Cx.fs (X : Cx) : List Addr := frs X.outer

def Vis (sc : Scope) (x : Str) : Prop := sc.names.lookup x = some .local ∨ sc.names.lookup x = some .cell ∨ sc.names.lookup x = some .free
def Loc (sc : Scope) (x : Str) : Prop := sc.names.lookup x = some .local ∨ sc.names.lookup x = some .cell
def Look (env : Env) (h : Heap) (m : Str → Option Value) (x : Str) (u : Value) : Prop :=
  (env.kindOf x = some .local ∧ m x = some u) ∨ ((env.kindOf x = some .cell ∨ env.kindOf x = some .free) ∧ ∃ c, env.cells.lookup x = some c ∧ h.IsCell c (some u))

structure Cx.Ok (X : Cx) : Prop where
  mod : Mod X.K X.mg X.base
  kind : X.env.scope.kind = .function
  glob : X.env.globals = mainGlobals
  blt : X.env.builtins = builtinsNs
  above : X.s₀.heap.objs.size ≤ X.env.locals
  inj : ∀ x y c, X.env.cells.lookup x = some c → X.env.cells.lookup y = some c → x = y
  has : ∀ x, (X.env.kindOf x = some .cell ∨ X.env.kindOf x = some .free) → ∃ c, X.env.cells.lookup x = some c
  cab : ∀ x c, X.fn x = true → X.env.cells.lookup x = some c → X.s₀.heap.objs.size ≤ c
  hd : X.calm = true → X.A.handled = none
  frames : X.A.frames = some X.stack
  stk : X.stack = X.outer ∨ (X.stack = X.env :: X.outer ∧ X.env.frame = some X.env.locals)
  exf : ∀ b ∈ X.ex, b ≠ X.env.locals ∧ ∀ x c, X.env.cells.lookup x = some c → c ≠ b
  bs : ∀ b o, X.base.get? b = some o → X.s₀.heap.get? b = some o ∧ X.H₀ b = none
  bsz : X.base.objs.size ≤ X.s₀.heap.objs.size
  noex : ∀ b o, X.base.get? b = some o → b ∉ X.ex
  exfs : ∀ b ∈ X.ex, b ∉ X.fs
  funs : X.s₀.heap.FunFrames X.base X.outer
  frf : ∀ b ∈ X.fs, X.H₀ b = none

structure Inv (X : Cx) (pins : List (Addr × Obj)) (σ : List (Option V)) (H : Hp) (s : Shared) : Prop where
  ok : X.Ok
  os : s.os = X.s₀.os
  bare : AllBare s.gens
  base : Un X.fs X.ex X.H₀ H X.s₀.heap s.heap
  loc : ∃ m, s.heap.Ns X.env.locals m ∧ ∀ (i : Nat) (x : Str) (v : V), X.N[i]? = some x → σ[i]? = some (some v) → Vis X.env.scope x → ∃ u, RelV v u ∧ Look X.env s.heap m x u
  cell : ∀ x c, X.env.cells.lookup x = some c → ∃ v, s.heap.IsCell c v
  free : H X.env.locals = none
  freeC : ∀ x c, X.env.cells.lookup x = some c → H c = none
  pin : ∀ p ∈ X.pn ++ pins, s.heap.get? p.1 = some p.2 ∧ H p.1 = none ∧ p.1 ≠ X.env.locals ∧ p.1 ∉ X.fs ∧ ∀ v, p.2.data ≠ .cell v
  hok : HOk X.prog X.w H s.heap
  len : σ.length = X.N.length

section
variable {X : Cx} {pins : List (Addr × Obj)} {σ : List (Option V)} {H H' : Hp} {s : Shared} {h' : Heap}

theorem Cx.Ok.nofr (ok : X.Ok) {b : Addr} {o : Obj} (e : X.base.get? b = some o) : b ∉ X.fs := fun hb => by
  have := (ok.funs.mem hb).1
  rw [e] at this; cases this
theorem Inv.bs (I : Inv X pins σ H s) : ∀ b o, X.base.get? b = some o → s.heap.get? b = some o ∧ H b = none := fun b o e =>
  ⟨I.base.keep b o (I.ok.bs b o e).1 (I.ok.bs b o e).2 (I.ok.nofr e) (I.ok.noex b o e), I.base.free b o (I.ok.bs b o e).1 (I.ok.bs b o e).2 (I.ok.noex b o e)⟩
theorem Inv.bk (I : Inv X pins σ H s) : ∀ b o, X.base.get? b = some o → s.heap.get? b = some o := fun b o e => (I.bs b o e).1
theorem Inv.mod (I : Inv X pins σ H s) : Mod X.K X.mg X.base := I.ok.mod
theorem Inv.kIn (I : Inv X pins σ H s) : X.K.In s.heap := I.ok.mod.kin.keeps I.bk
theorem Inv.lt (I : Inv X pins σ H s) : X.env.locals < s.heap.objs.size := let ⟨_, hn, _⟩ := I.loc; hn.lt
theorem Inv.sz (I : Inv X pins σ H s) : X.s₀.heap.objs.size ≤ s.heap.objs.size := Nat.le_trans I.ok.above (Nat.le_of_lt I.lt)
theorem Inv.nofs (I : Inv X pins σ H s) {a : Addr} (h : s.heap.objs.size ≤ a) : a ∉ X.fs := fun hb => by
  obtain ⟨_, o, ho, _⟩ := I.ok.funs.mem hb
  exact absurd (Nat.lt_of_lt_of_le (Heap.lt_size ho) (Nat.le_trans I.sz h)) (Nat.lt_irrefl _)
theorem Inv.cne (I : Inv X pins σ H s) : ∀ x c, X.env.cells.lookup x = some c → c ≠ X.env.locals := fun x c e z => by
  obtain ⟨v, o, ho, hd⟩ := I.cell x c e
  obtain ⟨m, ⟨o', es, ep, ho', hd', _⟩, _⟩ := I.loc
  rw [z, ho'] at ho; cases ho; rw [hd'] at hd; cases hd
theorem Inv.funs (I : Inv X pins σ H s) : s.heap.FunFrames X.base X.outer := by
  have all : ∀ (l : List Env), (∀ b ∈ frs l, b ∈ X.fs) → X.s₀.heap.FunFrames X.base l → s.heap.FunFrames X.base l := by
    intro l
    induction l with
    | nil => intro _ _; trivial
    | cons env r ih =>
      intro hs hl
      obtain ⟨hk, ⟨L, o, hf, hn, ho, hd⟩, hr⟩ := hl
      have hL : L ∈ X.fs := hs L (by unfold frs; rw [List.filterMap_cons, hf]; exact List.mem_cons_self)
      obtain ⟨sl, e⟩ := I.base.slot L o ho (I.ok.frf L hL) hL fun z => I.ok.exfs L z hL
      exact ⟨hk, ⟨L, _, hf, hn, e, hd⟩, ih (fun b hb => hs b (by unfold frs; rw [List.filterMap_cons, hf]; exact List.mem_cons_of_mem _ hb)) hr⟩
  exact all X.outer (fun _ hb => hb) I.ok.funs

/-- the frames that run, for a call -/
theorem Inv.stack (I : Inv X pins σ H s) : s.heap.FunFrames X.base X.stack := by
  rcases I.ok.stk with e | ⟨e, hf⟩
  · rw [e]; exact I.funs
  · rw [e]
    obtain ⟨m, hn, _⟩ := I.loc
    refine .cons (by rw [I.ok.kind]; decide) hf hn ?_ I.funs
    exact Heap.get?_none_of_le (Nat.le_trans I.ok.bsz I.ok.above)
theorem Inv.stkSub (I : Inv X pins σ H s) : ∀ b ∈ frs X.stack, b ∈ X.env.locals :: X.fs := fun b hb => by
  rcases I.ok.stk with e | ⟨e, hf⟩
  · rw [e] at hb; exact List.mem_cons_of_mem _ hb
  · rw [e] at hb
    unfold frs at hb
    rw [List.filterMap_cons, hf] at hb
    exact hb
theorem Inv.stkFree (I : Inv X pins σ H s) : ∀ b ∈ frs X.stack, H b = none := fun b hb => by
  rcases List.mem_cons.mp (I.stkSub b hb) with e | hb
  · rw [e]; exact I.free
  · obtain ⟨_, o, ho, _⟩ := I.ok.funs.mem hb
    exact I.base.free b o ho (I.ok.frf b hb) fun z => I.ok.exfs b z hb

/-- THE STEP: the untracked objects but the frame and the records at ch are kept (the callers' frames up to slots), the frame's map is kept, the new abstract heap is held -/
theorem Inv.step {g' : Array GenState} {t' : Nat} {d' : Drawn} {ch : List Addr} (I : Inv X pins σ H s)
    (hch : ∀ b ∈ ch, (b ∈ X.ex ∨ X.s₀.heap.objs.size ≤ b) ∧ b ≠ X.env.locals ∧ (∀ x c, X.env.cells.lookup x = some c → c ≠ b) ∧ ∀ p ∈ X.pn ++ pins, p.1 ≠ b)
    (keep : ∀ b o, b ≠ X.env.locals → b ∉ X.fs → b ∉ ch → s.heap.get? b = some o → H b = none → h'.get? b = some o)
    (slot : ∀ b o, b ≠ X.env.locals → b ∈ X.fs → b ∉ ch → s.heap.get? b = some o → H b = none → ∃ sl, h'.get? b = some { o with slots := sl }) (free : ∀ b o, b ∉ ch → s.heap.get? b = some o → H b = none → H' b = none)
    (there : ∀ b o, b ∉ ch → s.heap.get? b = some o → ∃ o', h'.get? b = some o')
    (tups : ∀ b xs, H b = some (.tup xs) → H' b = some (.tup xs)) (frzs : ∀ b o u, H b = some (.frz o u) → H' b = some (.frz o u)) (tbls : ∀ b ps, H b = some (.tbl ps) → ∃ more, H' b = some (.tbl (ps ++ more)))
    (ns : ∀ m, s.heap.Ns X.env.locals m → h'.Ns X.env.locals m) (hok : HOk X.prog X.w H' h') (hg : AllBare g') :
    Inv X pins σ H' { s with heap := h', gens := g', drawn := d', toks := t' } := by
  have neL : ∀ b o, X.s₀.heap.get? b = some o → b ≠ X.env.locals := fun b o e => Nat.ne_of_lt (Nat.lt_of_lt_of_le (Heap.lt_size e) I.ok.above)
  have neC : ∀ b o, X.s₀.heap.get? b = some o → b ∉ X.ex → b ∉ ch := fun b o e hx hb => by
    rcases (hch b hb).1 with z | z
    · exact hx z
    · exact absurd (Nat.lt_of_lt_of_le (Heap.lt_size e) z) (Nat.lt_irrefl _)
  have cellK : ∀ x c, X.env.cells.lookup x = some c → ∀ v, s.heap.IsCell c v → h'.IsCell c v := fun x c e v ⟨o, ho, hd⟩ => by
    have nch : c ∉ ch := fun z => (hch c z).2.2.1 x c e rfl
    by_cases hc : c ∈ X.fs
    · obtain ⟨sl, q⟩ := slot c o (I.cne x c e) hc nch ho (I.freeC x c e)
      exact ⟨_, q, hd⟩
    · exact ⟨o, keep c o (I.cne x c e) hc nch ho (I.freeC x c e), hd⟩
  refine ⟨I.ok, I.os, hg, ⟨fun b o e n hb hx => ?_, fun b o e n hb hx => ?_, fun b o e n hx => ?_, fun b o e hx => ?_, fun b xs e => tups b xs (I.base.tups b xs e), fun b o xs e => frzs b o xs (I.base.frzs b o xs e), fun b ps e => ?_⟩, ?_, fun x c e => ?_, ?_, fun x c e => ?_, fun p hp => ?_, hok, I.len⟩
  · exact keep b o (neL b o e) hb (neC b o e hx) (I.base.keep b o e n hb hx) (I.base.free b o e n hx)
  · obtain ⟨sl, e1⟩ := I.base.slot b o e n hb hx
    obtain ⟨sl', e2⟩ := slot b _ (neL b o e) hb (neC b o e hx) e1 (I.base.free b o e n hx)
    exact ⟨sl', e2⟩
  · obtain ⟨o', e1⟩ := I.base.there b o e hx
    exact free b o' (neC b o e hx) e1 (I.base.free b o e n hx)
  · obtain ⟨o', e1⟩ := I.base.there b o e hx
    exact there b o' (neC b o e hx) e1
  · obtain ⟨m1, e1⟩ := I.base.tbls b ps e
    obtain ⟨m2, e2⟩ := tbls b _ e1
    exact ⟨m1 ++ m2, by rw [e2, Array.append_assoc]⟩
  · obtain ⟨m, hn, hl⟩ := I.loc
    refine ⟨m, ns m hn, fun i x v e1 e2 e3 => ?_⟩
    obtain ⟨u, r, l⟩ := hl i x v e1 e2 e3
    refine ⟨u, r, ?_⟩
    rcases l with l | ⟨k, c, e, z⟩
    · exact .inl l
    · exact .inr ⟨k, c, e, cellK x c e _ z⟩
  · obtain ⟨v, z⟩ := I.cell x c e
    exact ⟨v, cellK x c e v z⟩
  · obtain ⟨m, ⟨o, _, _, ho, _⟩, _⟩ := I.loc
    exact free _ o (fun z => (hch _ z).2.1 rfl) ho I.free
  · obtain ⟨v, o, ho, hd⟩ := I.cell x c e
    exact free c o (fun z => (hch c z).2.2.1 x c e rfl) ho (I.freeC x c e)
  · obtain ⟨e, n, ne, nf, d⟩ := I.pin p hp
    have nch : p.1 ∉ ch := fun z => (hch p.1 z).2.2.2 p hp rfl
    exact ⟨keep p.1 p.2 ne nf nch e n, free p.1 p.2 nch e n, ne, nf, d⟩
/-- .. where the frame's own object is kept too -/
theorem Inv.un {t' : Nat} (I : Inv X pins σ H s) (u : Un X.fs [] H H' s.heap h') (hok : HOk X.prog X.w H' h') : Inv X pins σ H' { s with heap := h', toks := t' } := by
  obtain ⟨m, ⟨o, es, ep, ho, r⟩, _⟩ := id I.loc
  obtain ⟨sl, hL⟩ := u.any ho I.free (by simp)
  exact I.step (g' := s.gens) (d' := s.drawn) (ch := []) (fun _ z => nomatch z) (fun b o _ hb _ e n => u.keep b o e n hb (by simp)) (fun b o _ hb _ e n => u.slot b o e n hb (by simp)) (fun b o _ e n => u.free b o e n (by simp)) (fun b o _ e => u.there b o e (by simp)) u.tups u.frzs u.tbls (fun m' hm => by
    obtain ⟨o', es', ep', ho', r'⟩ := hm
    rw [ho] at ho'; cases ho'
    exact ⟨_, es', ep', hL, r'⟩) hok I.bare
/-- behind a call (or a comprehension's block): the slots of this frame may have changed too, the records at ch may have turned -/
theorem Inv.call {g' : Array GenState} {t' : Nat} {d' : Drawn} {ch : List Addr} (I : Inv X pins σ H s) (u : Un (frs X.stack) ch H H' s.heap h') (hok : HOk X.prog X.w H' h') (hg : AllBare g')
    (hch : ∀ b ∈ ch, (b ∈ X.ex ∨ X.s₀.heap.objs.size ≤ b) ∧ b ≠ X.env.locals ∧ (∀ x c, X.env.cells.lookup x = some c → c ≠ b) ∧ ∀ p ∈ X.pn ++ pins, p.1 ≠ b) :
    Inv X pins σ H' { s with heap := h', gens := g', drawn := d', toks := t' } := by
  obtain ⟨m, ⟨o, es, ep, ho, r⟩, _⟩ := id I.loc
  obtain ⟨sl, hL⟩ := u.any ho I.free fun z => (hch _ z).2.1 rfl
  exact I.step (ch := ch) hch (fun b o hL hb hc e n => u.keep b o e n (fun z => (List.mem_cons.mp (I.stkSub b z)).elim hL hb) hc) (fun b o _ _ hc e n => u.any e n hc) (fun b o hc e n => u.free b o e n hc) (fun b o hc e => u.there b o e hc) u.tups u.frzs u.tbls (fun m' hm => by
    obtain ⟨o', es', ep', ho', r'⟩ := hm
    rw [ho] at ho'; cases ho'
    exact ⟨_, es', ep', hL, r'⟩) hok hg
/-- an untracked record of ours (an iterator) has turned -/
theorem Inv.turned {t' : Nat} {it : Addr} (I : Inv X pins σ H s) (k : ∀ b o, b ≠ it → s.heap.get? b = some o → h'.get? b = some o) (hn : H it = none) (hL : it ≠ X.env.locals)
    (h1 : it ∈ X.ex ∨ X.s₀.heap.objs.size ≤ it) (h2 : ∀ x c, X.env.cells.lookup x = some c → c ≠ it) (h3 : ∀ p ∈ X.pn ++ pins, p.1 ≠ it) : Inv X pins σ H { s with heap := h', toks := t' } := by
  have nit : ∀ b u, H b = some u → b ≠ it := fun b u e z => by rw [z, hn] at e; cases e
  refine I.step (g' := s.gens) (d' := s.drawn) (ch := [it]) (fun b hb => ?_) (fun b o _ _ hc e _ => k b o (fun z => hc (by simp [z])) e) (fun b o _ _ hc e _ => ⟨o.slots, k b o (fun z => hc (by simp [z])) e⟩) (fun _ _ _ _ n => n)
    (fun b o hc e => ⟨o, k b o (fun z => hc (by simp [z])) e⟩) (fun _ _ e => e) (fun _ _ _ e => e) (fun b ps e => ⟨#[], by rw [e]; simp⟩) (fun m hm => ?_) (fun b u e => ?_) I.bare
  · have e : b = it := by simpa using hb
    subst e
    exact ⟨h1, hL, h2, h3⟩
  · obtain ⟨o, es, ep, ho, r⟩ := hm
    exact ⟨o, es, ep, k _ o (Ne.symm hL) ho, r⟩
  · refine (I.hok b u e).stay (fun c v hc q => k c v ?_ q) (fun _ q => q) fun _ _ q => q
    rcases hc with z | z
    · rw [z]; exact nit b u e
    · exact nit c _ z
theorem Inv.tok (I : Inv X pins σ H s) (t : Nat) : Inv X pins σ H { s with toks := t } := I.un (h' := s.heap) (t' := t) Un.refl I.hok
/-- all objects kept -/
theorem Inv.kept {t' : Nat} (I : Inv X pins σ H s) (k : ∀ b u, s.heap.get? b = some u → h'.get? b = some u) : Inv X pins σ H { s with heap := h', toks := t' } := I.un (Un.kept k) (I.hok.kept k)
/-- a new object laid and tracked -/
theorem Inv.laid {a : Addr} {o : HO} {t' : Nat} (I : Inv X pins σ H s) (k : ∀ b u, s.heap.get? b = some u → h'.get? b = some u) (hp : s.heap.objs.size ≤ a) (new : ObjOk X.prog X.w (upd H a o) h' a o) :
    Inv X pins σ (upd H a o) { s with heap := h', toks := t' } := I.un (Un.laid k hp (I.hok.fresh hp)) (I.hok.laid k hp new)
/-- an object written -/
theorem Inv.write {x e : Addr} {o : HO} {t' : Nat} (I : Inv X pins σ H s) (mu : Mut (H x)) (he : e = x ∨ H e = some (.own x)) (k : ∀ b u, b ≠ e → s.heap.get? b = some u → h'.get? b = some u) (heo : ∃ u, h'.get? e = some u)
    (new : ObjOk X.prog X.w (upd H x o) h' x o) : Inv X pins σ (upd H x o) { s with heap := h', toks := t' } := I.un (Un.write mu he k heo) (I.hok.write mu he k heo new)
/-- forgetting slots, pins -/
theorem Inv.weak {σ' : List (Option V)} (I : Inv X pins σ H s) (hl : σ'.length = σ.length) (w : ∀ (i : Nat) v, σ'[i]? = some (some v) → σ[i]? = some (some v)) : Inv X pins σ' H s :=
  ⟨I.ok, I.os, I.bare, I.base, let ⟨m, hn, hl'⟩ := I.loc; ⟨m, hn, fun i x v e1 e2 e3 => hl' i x v e1 (w i v e2) e3⟩, I.cell, I.free, I.freeC, I.pin, I.hok, hl.trans I.len⟩
theorem Inv.pins_of {pins' : List (Addr × Obj)} (I : Inv X pins σ H s) (h : ∀ p ∈ pins', s.heap.get? p.1 = some p.2 ∧ H p.1 = none ∧ p.1 ≠ X.env.locals ∧ p.1 ∉ X.fs ∧ ∀ v, p.2.data ≠ .cell v) : Inv X pins' σ H s :=
  ⟨I.ok, I.os, I.bare, I.base, I.loc, I.cell, I.free, I.freeC, fun p hp => (List.mem_append.mp hp).elim (fun z => I.pin p (List.mem_append_left _ z)) (h p), I.hok, I.len⟩

theorem nodup_ix {N : List Str} (hN : N.Nodup) {i j : Nat} {x : Str} (a : N[i]? = some x) (b : N[j]? = some x) : i = j := by
  obtain ⟨h1, e1⟩ := List.getElem?_eq_some_iff.mp a
  obtain ⟨h2, e2⟩ := List.getElem?_eq_some_iff.mp b
  exact (List.getElem_inj hN).mp (e1.trans e2.symm)

/-- a name is stored; what changed -/
theorem store_ok2 {M : Model} {A : Around} {E : Value → Shared → Prop} {i : Nat} {x : Str} {v : V} {u : Value} {Q : Unit → Shared → Prop} (I : Inv X pins σ H s) (hN : X.N.Nodup) (hi : X.N[i]? = some x) (hx : Loc X.env.scope x) (r : RelV v u)
    (h : ∀ s', Inv X pins (σ.set i (some v)) H s' → (∃ a, Heap.SameBut a s.heap s'.heap ∧ (a = X.env.locals ∨ X.env.cells.lookup x = some a)) → Q () s') (hf : X.fn x = true ∨ X.env.scope.names.lookup x = some .local := by first | exact .inl rfl | exact .inr rfl | assumption) : wpAny M A (storeName X.env x u) Q E s := by
  obtain ⟨m, hn, hl⟩ := id I.loc
  have hcls : (X.env.scope.kind == .class || (X.env.scope.kind == .module && X.env.locals != X.env.globals)) = false := by rw [I.ok.kind]; rfl
  have hiσ : i < σ.length := by rw [I.len]; exact (List.getElem?_eq_some_iff.mp hi).1
  have cne := I.cne
  have tracked : ∀ {a : Addr} {h' : Heap}, (∃ o, s.heap.get? a = some o ∧ H a = none) → Heap.SameBut a s.heap h' → HOk X.prog X.w H h' := fun {a h'} ha hs b ob e => by
    obtain ⟨_, _, hfree⟩ := ha
    refine (I.hok b ob e).stay (fun c w' hc q => (hs.2 c ?_).trans q) (fun _ q => q) fun _ _ q => q
    rintro rfl
    rcases hc with rfl | hc
    · rw [hfree] at e; cases e
    · rw [hfree] at hc; cases hc
  rcases hx with hk | hk
  · refine wpAny_storeName_local hk hn (fun h' hn' hs => ?_) hcls
    obtain ⟨oL, _, _, hoL, _⟩ := id hn
    refine h _ ⟨I.ok, I.os, I.bare, ⟨fun b o e n hb hx => ?_, fun b o e n hb hx => ?_, I.base.free, fun b o e hx => ?_, I.base.tups, I.base.frzs, I.base.tbls⟩, ⟨_, hn', fun j y v' e1 e2 e3 => ?_⟩, fun y c e => ?_, I.free, I.freeC, fun p hp => ?_, tracked ⟨oL, hoL, I.free⟩ hs, by simpa using I.len⟩ ⟨_, hs, .inl rfl⟩
    · exact (hs.2 b (Nat.ne_of_lt (Nat.lt_of_lt_of_le (Heap.lt_size e) I.ok.above))).trans (I.base.keep b o e n hb hx)
    · obtain ⟨sl, e1⟩ := I.base.slot b o e n hb hx
      exact ⟨sl, (hs.2 b (Nat.ne_of_lt (Nat.lt_of_lt_of_le (Heap.lt_size e) I.ok.above))).trans e1⟩
    · obtain ⟨o', e1⟩ := I.base.there b o e hx
      exact ⟨o', (hs.2 b (Nat.ne_of_lt (Nat.lt_of_lt_of_le (Heap.lt_size e) I.ok.above))).trans e1⟩
    · by_cases hj : j = i
      · subst hj
        rw [hi] at e1; cases e1
        rw [List.getElem?_set_self hiσ] at e2
        cases e2
        exact ⟨u, r, .inl ⟨hk, by simp⟩⟩
      · rw [List.getElem?_set_ne (Ne.symm hj)] at e2
        obtain ⟨u', r', q⟩ := hl j y v' e1 e2 e3
        refine ⟨u', r', ?_⟩
        rcases q with ⟨k, e⟩ | ⟨k, c, e, z⟩
        · refine .inl ⟨k, ?_⟩
          have : y ≠ x := fun e => hj (nodup_ix hN e1 (e ▸ hi))
          simp [this, e]
        · exact .inr ⟨k, c, e, z.sameBut hs (cne y c e)⟩
    · obtain ⟨w', z⟩ := I.cell y c e
      exact ⟨w', z.sameBut hs (cne y c e)⟩
    · obtain ⟨e, n, ne, nf, d⟩ := I.pin p hp
      exact ⟨(hs.2 p.1 ne).trans e, n, ne, nf, d⟩
  · have hfn : X.fn x = true := by
      rcases hf with z | z
      · exact z
      · rw [z] at hk; cases hk
    obtain ⟨c, hc⟩ := I.ok.has x (.inl hk)
    obtain ⟨w', z⟩ := I.cell x c hc
    refine wpAny_storeName_cell I.ok.kind hk hc z (fun h' hc' hs => ?_)
    obtain ⟨oc, hoc, hocd⟩ := id z
    refine h { s with heap := h' } ⟨I.ok, I.os, I.bare, ⟨fun b o e n hb hx => ?_, fun b o e n hb hx => ?_, I.base.free, fun b o e hx => ?_, I.base.tups, I.base.frzs, I.base.tbls⟩, ⟨m, hn.sameBut hs (Ne.symm (cne x c hc)), fun j y v' e1 e2 e3 => ?_⟩, fun y c' e => ?_, I.free, I.freeC, fun p hp => ?_, tracked ⟨oc, hoc, I.freeC x c hc⟩ hs, by simpa using I.len⟩ ⟨c, hs, .inr hc⟩
    · exact (hs.2 b (Nat.ne_of_lt (Nat.lt_of_lt_of_le (Heap.lt_size e) (I.ok.cab x c hfn hc)))).trans (I.base.keep b o e n hb hx)
    · obtain ⟨sl, e1⟩ := I.base.slot b o e n hb hx
      exact ⟨sl, (hs.2 b (Nat.ne_of_lt (Nat.lt_of_lt_of_le (Heap.lt_size e) (I.ok.cab x c hfn hc)))).trans e1⟩
    · obtain ⟨o', e1⟩ := I.base.there b o e hx
      exact ⟨o', (hs.2 b (Nat.ne_of_lt (Nat.lt_of_lt_of_le (Heap.lt_size e) (I.ok.cab x c hfn hc)))).trans e1⟩
    · by_cases hj : j = i
      · subst hj
        rw [hi] at e1; cases e1
        rw [List.getElem?_set_self hiσ] at e2
        cases e2
        exact ⟨u, r, .inr ⟨.inl hk, c, hc, hc'⟩⟩
      · rw [List.getElem?_set_ne (Ne.symm hj)] at e2
        obtain ⟨u', r', q⟩ := hl j y v' e1 e2 e3
        refine ⟨u', r', ?_⟩
        rcases q with q | ⟨k, c', e, z'⟩
        · exact .inl q
        · refine .inr ⟨k, c', e, z'.sameBut hs ?_⟩
          rintro rfl
          exact hj (nodup_ix hN e1 (I.ok.inj _ _ _ e hc ▸ hi))
    · by_cases hcc : c' = c
      · subst hcc; exact ⟨_, hc'⟩
      · obtain ⟨w2, z2⟩ := I.cell y c' e
        exact ⟨w2, z2.sameBut hs hcc⟩
    · obtain ⟨e, n, ne, nf, d⟩ := I.pin p hp
      refine ⟨(hs.2 p.1 ?_).trans e, n, ne, nf, d⟩
      intro q
      rw [q, hoc] at e
      have q' : oc = p.2 := Option.some.inj e
      exact d w' (by rw [← q']; exact hocd)
theorem store_ok {M : Model} {A : Around} {E : Value → Shared → Prop} {i : Nat} {x : Str} {v : V} {u : Value} {Q : Unit → Shared → Prop} (I : Inv X pins σ H s) (hN : X.N.Nodup) (hi : X.N[i]? = some x) (hx : Loc X.env.scope x) (r : RelV v u)
    (h : ∀ s', Inv X pins (σ.set i (some v)) H s' → Q () s') (hf : X.fn x = true ∨ X.env.scope.names.lookup x = some .local := by first | exact .inl rfl | exact .inr rfl | assumption) : wpAny M A (storeName X.env x u) Q E s :=
  store_ok2 I hN hi hx r (fun s' I' _ => h s' I') hf
/-- behind a call or a block, the state as it is -/
theorem Inv.call' {s' : Shared} {ch : List Addr} (I : Inv X pins σ H s) (ho : s'.os = s.os) (u : Un (frs X.stack) ch H H' s.heap s'.heap) (hok : HOk X.prog X.w H' s'.heap) (hg : AllBare s'.gens)
    (hch : ∀ b ∈ ch, (b ∈ X.ex ∨ X.s₀.heap.objs.size ≤ b) ∧ b ≠ X.env.locals ∧ (∀ x c, X.env.cells.lookup x = some c → c ≠ b) ∧ ∀ p ∈ X.pn ++ pins, p.1 ≠ b) : Inv X pins σ H' s' := by
  obtain ⟨h', g', d', t', o'⟩ := s'
  have e : o' = s.os := ho
  subst e
  exact I.call (g' := g') (t' := t') (d' := d') u hok hg hch
end

/-- an exception: its class, its own dict's address (where it has one), the abstract heap behind it -/
abbrev XK := Value → Option Addr → Hp → Prop
abbrev St := List (Option V)
abbrev VK := V → Hp → Prop
/-- an expression's reading; a test's; an argument list's -/
abbrev TE := St → Hp → VK → Prop
abbrev TT := St → Hp → (Bool → Hp → Prop) → Prop
abbrev TA := St → Hp → (List V → Hp → Prop) → Prop
/-- what is wanted behind a statement -/
structure Ends where
  nx : St → Hp → Prop
  rt : VK
  bk : St → Hp → Prop := fun _ _ => False
  ct : St → Hp → Prop := fun _ _ => False
abbrev TS := Ends → St → Hp → Prop

def EP (X : Cx) (pins : List (Addr × Obj)) (σ : St) (Q : VK) (u : Value) (s' : Shared) : Prop := ∃ v H', Inv X pins σ H' s' ∧ RelV v u ∧ Q v H'
def TP (X : Cx) (pins : List (Addr × Obj)) (σ : St) (Q : Bool → Hp → Prop) (b : Bool) (s' : Shared) : Prop := ∃ H', Inv X pins σ H' s' ∧ Q b H'
def AP (X : Cx) (pins : List (Addr × Obj)) (σ : St) (Q : List V → Hp → Prop) (us : List Value) (s' : Shared) : Prop := ∃ vs H', Inv X pins σ H' s' ∧ Vals vs us ∧ Q vs H'
def SP (X : Cx) (pins : List (Addr × Obj)) (D : Ends) (f : Flow) (s' : Shared) : Prop :=
  match f with
  | .next => ∃ σ' H', Inv X pins σ' H' s' ∧ D.nx σ' H'
  | .brk => ∃ σ' H', Inv X pins σ' H' s' ∧ D.bk σ' H'
  | .cont => ∃ σ' H', Inv X pins σ' H' s' ∧ D.ct σ' H'
  | .ret u => ∃ v σ' H', Inv X pins σ' H' s' ∧ RelV v u ∧ D.rt v H'

def PE (X : Cx) (e : Expr) (t : TE) : Prop :=
  ∀ (pins : List (Addr × Obj)) (s : Shared) (σ : St) (H : Hp) (Q : VK), Inv X pins σ H s → t σ H Q → wpAny (model X.prog X.w) X.A (eval e X.env) (EP X pins σ Q) X.xe s
def PT (X : Cx) (e : Expr) (t : TT) : Prop :=
  ∀ (pins : List (Addr × Obj)) (s : Shared) (σ : St) (H : Hp) (Q : Bool → Hp → Prop), Inv X pins σ H s → t σ H Q → wpAny (model X.prog X.w) X.A (isTrue e X.env (eval e X.env)) (TP X pins σ Q) X.xe s
/-- a test whatever its 'whole' is (and, or) -/
def PW (X : Cx) (e : Expr) (t : TT) : Prop :=
  ∀ (whole : Sem Value) (pins : List (Addr × Obj)) (s : Shared) (σ : St) (H : Hp) (Q : Bool → Hp → Prop), Inv X pins σ H s → t σ H Q → wpAny (model X.prog X.w) X.A (isTrue e X.env whole) (TP X pins σ Q) X.xe s
theorem PW.pt {X : Cx} {e : Expr} {t : TT} (h : PW X e t) : PT X e t := h _
/-- an argument list (no star), from the left -/
def PA (X : Cx) (es : List Expr) (t : TA) : Prop :=
  ∀ (pos : Pos) (pins : List (Addr × Obj)) (s : Shared) (σ : St) (H : Hp) (Q : List V → Hp → Prop), Inv X pins σ H s → t σ H Q → wpAny (model X.prog X.w) X.A (spliced (backTo pos (starEach es X.env))) (AP X pins σ Q) X.xe s
def PS (X : Cx) (st : Stmt) (t : TS) : Prop :=
  ∀ (pins : List (Addr × Obj)) (s : Shared) (σ : St) (H : Hp) (D : Ends), Inv X pins σ H s → t D σ H → wpAny (model X.prog X.w) X.A (exec st X.env) (SP X pins D) X.xe s
def PSs (X : Cx) (st : List Stmt) (t : TS) : Prop :=
  ∀ (pins : List (Addr × Obj)) (s : Shared) (σ : St) (H : Hp) (D : Ends), Inv X pins σ H s → t D σ H → wpAny (model X.prog X.w) X.A (execs st X.env) (SP X pins D) X.xe s
/-- weaken the end -/
theorem thn {α : Type} {t : Sem α} {Q Q' : α → Shared → Prop} {M : Model} {A : Around} {E : Value → Shared → Prop} {s : Shared} (h : wpAny M A t Q E s) (hQ : ∀ a s, Q a s → Q' a s) : wpAny M A t Q' E s := wpAny_mono h hQ fun _ _ x => x
end L2

namespace L2
open PySem PySem.Spec PyProof.Rows
section
variable {X : Cx}

def tVar (i : Nat) : TE := fun σ H Q => ∃ v, σ[i]? = some (some v) ∧ Q v H
def tC (v : V) : TE := fun _ H Q => Q v H
theorem pe_var {i : Nat} {x : Str} {pos : Pos} (hN : X.N[i]? = some x) (hv : Vis X.env.scope x) (hd : (x == ("__debug__" : Str)) = false := by decide) (hcd : (x == ("__classdict__" : Str)) = false := by decide) : PE X (.Name x pos) (tVar i) := by
  intro pins s σ H Q I h
  obtain ⟨v, e, h⟩ := h
  obtain ⟨m, hn, hl⟩ := I.loc
  obtain ⟨u, r, l⟩ := hl i x v hN e hv
  have fin : EP X pins σ Q u s := ⟨v, H, I, r, h⟩
  rcases l with ⟨hk, hm⟩ | ⟨hk, c, hc, hcell⟩
  · exact wpAny_Name (wpAny_loadName_local I.ok.kind hk hn hm fin) hd
  · rcases hk with hk | hk
    · exact wpAny_Name (wpAny_loadName_cell I.ok.kind hk hc hcell fin) hd
    · exact wpAny_Name (wpAny_loadName_free I.ok.kind hk hc hcell fin hcd) hd
theorem pe_int {i j pos} : PE X (.Constant (.int i) j pos) (tC (.int i)) := fun _ _ _ H _ I h => wpAny_Constant_int ⟨.int i, H, I.tok _, ⟨_, rfl⟩, h⟩
theorem pe_bl {b j pos} : PE X (.Constant (.bool b) j pos) (tC (.bl b)) := fun _ _ _ H _ I h => Constant_bool ⟨.bl b, H, I, rfl, h⟩
theorem pe_str {x j pos} : PE X (.Constant (.str x) j pos) (tC (.str x)) := fun _ _ _ H _ I h => Calls.Constant_str ⟨.str x, H, I.tok _, ⟨_, rfl⟩, h⟩

/-- a global name of the def -/
def Gl (X : Cx) (x : Str) : Prop := X.env.kindOf x = some .globalImplicit
theorem ld_glob {E : Value → Shared → Prop} {pins : List (Addr × Obj)} {s : Shared} {σ : St} {H : Hp} {x : Str} {u : Value} {pos : Pos} {Q : Value → Shared → Prop} (I : Inv X pins σ H s) (hg : Gl X x) (hm : X.mg x = some u) (h : Q u s)
    (hd : (x == ("__debug__" : Str)) = false := by decide) : wpAny (model X.prog X.w) X.A (eval (.Name x pos) X.env) Q E s :=
  Calls.Name_function_global I.ok.kind hg (Calls.loadGlobal_global (by rw [I.ok.glob]; exact I.mod.glob.keeps I.bk) hm h) hd
theorem ld_blt {E : Value → Shared → Prop} {pins : List (Addr × Obj)} {s : Shared} {σ : St} {H : Hp} {x : Str} {u : Value} {pos : Pos} {Q : Value → Shared → Prop} (I : Inv X pins σ H s) (hg : Gl X x) (hm : X.mg x = none) (hv : bootBuiltins x = some u) (h : Q u s)
    (hn : x ≠ "__name__" := by decide) (hd : (x == ("__debug__" : Str)) = false := by decide) : wpAny (model X.prog X.w) X.A (eval (.Name x pos) X.env) Q E s := by
  obtain ⟨mb, h1, h2⟩ := I.mod.blt
  exact Calls.Name_function_global I.ok.kind hg (Calls.loadGlobal_builtin (by rw [I.ok.glob]; exact I.mod.glob.keeps I.bk) hm (by rw [I.ok.blt]; exact h1.keeps I.bk) ((h2 x hn).trans hv) h) hd
/-- a module's constant, a class, a function, as a value -/
theorem pe_glob {x : Str} {v : V} {u : Value} {pos : Pos} (hg : Gl X x) (hm : X.mg x = some u) (r : RelV v u) (hd : (x == ("__debug__" : Str)) = false := by decide) : PE X (.Name x pos) (tC v) :=
  fun _ _ _ H _ I h => ld_glob I hg hm ⟨v, H, I, r, h⟩ hd
theorem pe_bltn {x : Str} {v : V} {u : Value} {pos : Pos} (hg : Gl X x) (hm : X.mg x = none) (hv : bootBuiltins x = some u) (r : RelV v u) (hn : x ≠ "__name__" := by decide) (hd : (x == ("__debug__" : Str)) = false := by decide) : PE X (.Name x pos) (tC v) :=
  fun _ _ _ H _ I h => ld_blt I hg hm hv ⟨v, H, I, r, h⟩ hn hd

variable {a b : Expr} {ta tb : TE} {pos : Pos}
/-- a comparison as a value, as a test -/
def tB (t : TE) : TT := fun σ H Q => t σ H fun x H1 => ∃ c, x = .bl c ∧ Q c H1
/-- an expression whose value is a bool, as a test -/
theorem pt_val {e : Expr} {t : TE} (h : PE X e t) (he : ∀ whole, isTrue e X.env whole = (do let v ← whole; standAt e.pos; holding [v] (truthy v)) := by intro _; rfl) : PT X e (tB t) := by
  intro pins s σ H Q I hw
  refine isTrue_plain (thn (h pins s σ H _ I hw) fun v s1 ⟨x, H1, I1, r1, q1⟩ => ?_) (he _)
  obtain ⟨d, rfl, q⟩ := q1
  cases r1
  exact wpAny_truthy_bool ⟨H1, I1, q⟩

variable {tA tB' : TT} {rest : List Expr}
def tAnd (t u : TT) : TT := fun σ H Q => t σ H fun c H1 => if c = true then u σ H1 Q else Q false H1
def tOr (t u : TT) : TT := fun σ H Q => t σ H fun c H1 => if c = true then Q true H1 else u σ H1 Q
def tNot (t : TT) : TT := fun σ H Q => t σ H fun c H1 => Q (!c) H1
theorem pw_and1 (ha : PT X a tA) : PW X (.BoolOp .And [a] pos) tA := by
  intro wh pins s σ H Q I h
  refine isTrue_and (thn (ha pins s σ H Q I h) fun c s1 e => ?_)
  cases c with
  | true => exact isTrue_and_nil e
  | false => exact e
theorem pw_or1 (ha : PT X a tA) : PW X (.BoolOp .Or [a] pos) tA := by
  intro wh pins s σ H Q I h
  refine isTrue_or (thn (ha pins s σ H Q I h) fun c s1 e => ?_)
  cases c with
  | false => exact isTrue_or_nil e
  | true => exact e
theorem pw_and (ha : PT X a tA) (hb : PW X (.BoolOp .And (b :: rest) pos) tB') : PW X (.BoolOp .And (a :: b :: rest) pos) (tAnd tA tB') := by
  intro wh pins s σ H Q I h
  refine isTrue_and (thn (ha pins s σ H _ I h) fun c s1 ⟨H1, I1, q1⟩ => ?_)
  cases c with
  | true => exact hb wh pins s1 σ H1 Q I1 q1
  | false => exact ⟨H1, I1, q1⟩
theorem pw_or (ha : PT X a tA) (hb : PW X (.BoolOp .Or (b :: rest) pos) tB') : PW X (.BoolOp .Or (a :: b :: rest) pos) (tOr tA tB') := by
  intro wh pins s σ H Q I h
  refine isTrue_or (thn (ha pins s σ H _ I h) fun c s1 ⟨H1, I1, q1⟩ => ?_)
  cases c with
  | true => exact ⟨H1, I1, q1⟩
  | false => exact hb wh pins s1 σ H1 Q I1 q1
theorem pt_not (ha : PT X a tA) : PT X (.UnaryOp .Not a pos) (tNot tA) := by
  intro pins s σ H Q I h
  exact isTrue_not (ha pins s σ H (fun c H1 => Q (!c) H1) I h)
/-- .. as values (bools) -/
def tAndV (ta tb : TE) : TE := fun σ H Q => ta σ H fun x H1 => ∃ c, x = .bl c ∧ if c = true then tb σ H1 Q else Q (.bl false) H1
def tNotV (ta : TE) : TE := fun σ H Q => ta σ H fun x H1 => ∃ c, x = .bl c ∧ Q (.bl (!c)) H1
theorem pe_one {op} {t : TE} (h : PE X a t) : PE X (.BoolOp op [a] pos) t := fun pins s σ H Q I hw => BoolOp_one (h pins s σ H Q I hw)
theorem pe_and (ha : PE X a ta) (hb : PE X (.BoolOp .And (b :: rest) pos) tb) : PE X (.BoolOp .And (a :: b :: rest) pos) (tAndV ta tb) := by
  intro pins s σ H Q I h
  refine BoolOp_and (thn (ha pins s σ H _ I h) fun v s1 ⟨x, H1, I1, r1, q1⟩ => ?_)
  obtain ⟨c, rfl, q1⟩ := q1
  cases r1
  refine wpAny_truthy_bool ?_
  cases c with
  | true => exact hb pins s1 σ H1 Q I1 q1
  | false => exact ⟨.bl false, H1, I1, rfl, q1⟩
theorem pe_not (ha : PE X a ta) : PE X (.UnaryOp .Not a pos) (tNotV ta) := by
  intro pins s σ H Q I h
  refine UnaryOp_ (thn (ha pins s σ H _ I h) fun v s1 ⟨x, H1, I1, r1, q1⟩ => ?_)
  obtain ⟨c, rfl, q1⟩ := q1
  cases r1
  exact not_of (wpAny_truthy_bool ⟨.bl (!c), H1, I1, rfl, q1⟩)
/-- a if t else b -/
def tIf (t : TT) (ta tb : TE) : TE := fun σ H Q => t σ H fun c H1 => if c = true then ta σ H1 Q else tb σ H1 Q
theorem pe_ifExp {c : Expr} (hc : PT X c tA) (ha : PE X a ta) (hb : PE X b tb) : PE X (.IfExp c a b pos) (tIf tA ta tb) := by
  intro pins s σ H Q I h
  refine wpAny_IfExp (thn (hc pins s σ H _ I h) fun d s1 ⟨H1, I1, q1⟩ => ?_)
  cases d with
  | true => exact ha pins s1 σ H1 Q I1 q1
  | false => exact hb pins s1 σ H1 Q I1 q1
end
end L2

namespace L2
open PySem PySem.Spec PyProof.Rows

def SqL (K : PySem.W.Frag) (H : Hp) (a : Addr) (xs : List V) : Prop :=
  Rd H a (.lst xs) ∨
    ∃ (o : Obj) (its : Array Value) (n : Nat), K.lookup a = some o ∧ o.cls = .type "list" ∧ o.dict = none ∧ o.data = .seq its n ∧ its.size ≤ sizeLine ∧ Vals xs its.toList
def SqT (K : PySem.W.Frag) (H : Hp) (a : Addr) (xs : List V) : Prop :=
  Rd H a (.tup xs) ∨
    ∃ (o : Obj) (its : Array Value) (n : Nat), K.lookup a = some o ∧ o.cls = .type "tuple" ∧ o.data = .seq its n ∧ its.size ≤ sizeLine ∧ Vals xs its.toList
def absV : Value → Option V
  | .none => some .non
  | .bool b => some (.bl b)
  | .int i _ => some (.int i)
  | .str x _ => some (.str x)
  | .bytes b _ => some (.byt b)
  | .float b _ => some (.flt b)
  | .ref a => some (.ref a)
  | .type n => some (.ty n)
  | _ => none
theorem RelV.abs {x : V} {u : Value} (r : RelV x u) : absV u = some x := by
  cases x with
  | non => cases r; rfl
  | bl _ => cases r; rfl
  | int _ => obtain ⟨t, rfl⟩ := r; rfl
  | str _ => obtain ⟨t, rfl⟩ := r; rfl
  | byt _ => obtain ⟨t, rfl⟩ := r; rfl
  | flt _ => obtain ⟨t, rfl⟩ := r; rfl
  | ref _ => cases r; rfl
  | ty _ => cases r; rfl
theorem RelV.inj {x y : V} {u : Value} (r : RelV x u) (q : RelV y u) : x = y := Option.some.inj (r.abs.symm.trans q.abs)
theorem Vals.inj : ∀ {xs ys : List V} {us : List Value}, Vals xs us → Vals ys us → xs = ys
  | _, _, _, .nil, .nil => rfl
  | _, _, _, .cons r t, .cons r' t' => by rw [r.inj r', Vals.inj t t']
section
variable {X : Cx} {pins : List (Addr × Obj)} {σ : St} {H : Hp} {s : Shared} {a : Addr} {xs ys : List V}
theorem SqL.of {K : PySem.W.Frag} (h : H a = some (.lst xs)) : SqL K H a xs := .inl (.inl h)
theorem SqT.of {K : PySem.W.Frag} (h : H a = some (.tup xs)) : SqT K H a xs := .inl (.inl h)
theorem Inv.list (I : Inv X pins σ H s) (h : SqL X.K H a xs) : ∃ its : List Value, Vals xs its ∧ PlainL s.heap a its.toArray ∧ xs.length ≤ sizeLine := by
  rcases h with h | ⟨o, its, n, hk, hc, hd, hs, hz, r⟩
  · obtain ⟨z, its, n, r, e⟩ := h.ok I.hok
    exact ⟨its, r, ⟨_, n, e, rfl, rfl, rfl⟩, z⟩
  · refine ⟨its.toList, r, ⟨o, n, I.kIn a o hk, hc, hd, by simpa using hs⟩, ?_⟩
    have e := r.length
    simp only [Array.length_toList] at e
    (first | lia | omega)
theorem Inv.tuple (I : Inv X pins σ H s) (h : SqT X.K H a xs) : ∃ its : List Value, Vals xs its ∧ IsTup s.heap a its.toArray ∧ xs.length ≤ sizeLine := by
  rcases h with h | ⟨o, its, n, hk, hc, hs, hz, r⟩
  · obtain ⟨z, its, r, p⟩ := h.ok I.hok
    exact ⟨its, r, p, z⟩
  · refine ⟨its.toList, r, ⟨o, I.kIn a o hk, hc, n, by simpa using hs⟩, ?_⟩
    have e := r.length
    simp only [Array.length_toList] at e
    (first | lia | omega)
theorem Inv.list_inj (I : Inv X pins σ H s) (h : SqL X.K H a xs) (h' : SqL X.K H a ys) : xs = ys := by
  obtain ⟨its, r, ⟨o, n, e, _, _, d⟩, _⟩ := I.list h
  obtain ⟨its', r', ⟨o', n', e', _, _, d'⟩, _⟩ := I.list h'
  rw [e] at e'; cases e'
  rw [d] at d'
  injection d' with d1 _
  have : its = its' := by simpa using congrArg Array.toList d1
  subst this
  exact r.inj r'
end

abbrev Cx.wish (X : Cx) (E : Value → Shared → Prop) : Cx := { X with xe := E }
/-- no exception leaves -/
abbrev Cx.nox (X : Cx) : Cx := X.wish fun _ _ => False
theorem Cx.Ok.wish {X : Cx} (ok : X.Ok) (E : Value → Shared → Prop) : (X.wish E).Ok :=
  ⟨ok.mod, ok.kind, ok.glob, ok.blt, ok.above, ok.inj, ok.has, ok.cab, ok.hd, ok.frames, ok.stk, ok.exf, ok.bs, ok.bsz, ok.noex, ok.exfs, ok.funs, ok.frf⟩
theorem Cx.Ok.unwish {X : Cx} {E : Value → Shared → Prop} (ok : (X.wish E).Ok) : X.Ok :=
  ⟨ok.mod, ok.kind, ok.glob, ok.blt, ok.above, ok.inj, ok.has, ok.cab, ok.hd, ok.frames, ok.stk, ok.exf, ok.bs, ok.bsz, ok.noex, ok.exfs, ok.funs, ok.frf⟩
section
variable {X : Cx} {pins : List (Addr × Obj)} {σ : St} {H : Hp} {s : Shared} {E : Value → Shared → Prop}
theorem Inv.wish (I : Inv X pins σ H s) (E : Value → Shared → Prop) : Inv (X.wish E) pins σ H s := ⟨I.ok.wish E, I.os, I.bare, I.base, I.loc, I.cell, I.free, I.freeC, I.pin, I.hok, I.len⟩
theorem Inv.unwish (I : Inv (X.wish E) pins σ H s) : Inv X pins σ H s := ⟨I.ok.unwish, I.os, I.bare, I.base, I.loc, I.cell, I.free, I.freeC, I.pin, I.hok, I.len⟩
theorem SP.unwish {D : Ends} {f : Flow} {s' : Shared} (h : SP (X.wish E) pins D f s') : SP X pins D f s' := by
  cases f with
  | next => obtain ⟨σ', H', I, q⟩ := h; exact ⟨σ', H', I.unwish, q⟩
  | brk => obtain ⟨σ', H', I, q⟩ := h; exact ⟨σ', H', I.unwish, q⟩
  | cont => obtain ⟨σ', H', I, q⟩ := h; exact ⟨σ', H', I.unwish, q⟩
  | ret u => obtain ⟨v, σ', H', I, r, q⟩ := h; exact ⟨v, σ', H', I.unwish, r, q⟩
theorem PSs.nox {st : List Stmt} {t : TS} (h : PSs X.nox st t) : PSs X st t := fun pins s σ H D I hw =>
  wpAny_mono (h pins s σ H D (I.wish _) hw) (fun _ _ q => q.unwish) fun _ _ z => False.elim z
end

section
variable {X : Cx} {st : Stmt} {rest : List Stmt} {t u : TS} {e : Expr} {te : TE} {pos : Pos}
def tNext : TS := fun D σ H => D.nx σ H
def tSeq (t u : TS) : TS := fun D σ H => t { D with nx := u D } σ H
theorem pss_nil : PSs X [] tNext := fun _ _ σ H _ I h => wpAny_execs_nil ⟨σ, H, I, h⟩
theorem pss_cons (h1 : PS X st t) (h2 : PSs X rest u) : PSs X (st :: rest) (tSeq t u) := by
  intro pins s σ H D I h
  refine wpAny_execs_cons (thn (h1 pins s σ H { D with nx := u D } I h) fun f s1 q => ?_)
  cases f with
  | next =>
    obtain ⟨σ', H', I', q⟩ := q
    exact h2 pins s1 σ' H' D I' q
  | ret v => exact q
  | brk => exact q
  | cont => exact q
theorem pss_one (h1 : PS X st t) : PSs X [st] t := by
  intro pins s σ H D I h
  refine wpAny_execs_cons (thn (h1 pins s σ H D I h) fun f s1 q => ?_)
  cases f with
  | next => exact wpAny_execs_nil q
  | ret v => exact q
  | brk => exact q
  | cont => exact q
/-- in a def's body nothing is shown -/
theorem Inv.quiet {pins : List (Addr × Obj)} {σ : St} {H : Hp} {s : Shared} (I : Inv X pins σ H s) : interactive X.env = false := by simp [interactive, I.ok.kind]
/-- an expression whose value is dropped -/
def tDrop (te : TE) : TS := fun D σ H => te σ H fun _ H1 => D.nx σ H1
theorem ps_expr (he : PE X e te) (hs : swapsWith e none pos.line X.env = pure false := by rfl) : PS X (.Expr e pos) (tDrop te) := by
  intro pins s σ H D I h
  exact wpAny_Expr_any (thn (he pins s σ H _ I h) fun v s1 ⟨x, H1, I1, r1, q1⟩ => ⟨σ, H1, I1, q1⟩) I.quiet hs
def tRet (te : TE) : TS := fun D σ H => te σ H D.rt
theorem ps_ret (he : PE X e te) : PS X (.Return (some e) pos) (tRet te) := by
  intro pins s σ H D I h
  exact wpAny_Return_some (thn (he pins s σ H _ I h) fun v s1 ⟨x, H1, I1, r1, q1⟩ => ⟨x, σ, H1, I1, r1, q1⟩)
def tIfS (c : TT) (t u : TS) : TS := fun D σ H => c σ H fun b H1 => if b = true then t D σ H1 else u D σ H1
theorem ps_if {c : Expr} {a b : List Stmt} {tc : TT} (hc : PT X c tc) (ha : PSs X a t) (hb : PSs X b u) : PS X (.If c a b pos) (tIfS tc t u) := by
  intro pins s σ H D I h
  refine wpAny_If (thn (hc pins s σ H _ I h) fun d s1 ⟨H1, I1, q1⟩ => ?_)
  cases d with
  | true => exact ha pins s1 σ H1 D I1 q1
  | false => exact hb pins s1 σ H1 D I1 q1
/-- code that the proof never comes to -/
def tNever : TS := fun _ _ _ => False
theorem ps_never : PS X st tNever := fun _ _ _ _ _ _ h => h.elim
end

abbrev TG := V → St → Hp → (St → Hp → Prop) → Prop
abbrev TGs := List V → St → Hp → (St → Hp → Prop) → Prop
def PG (X : Cx) (target : Expr) (t : TG) : Prop :=
  ∀ (pins : List (Addr × Obj)) (s : Shared) (σ : St) (H : Hp) (v : V) (u : Value) (Q : St → Hp → Prop), Inv X pins σ H s → RelV v u → t v σ H Q →
    wpAny (model X.prog X.w) X.A (assign target X.env u) (fun _ s' => ∃ σ' H', Inv X pins σ' H' s' ∧ Q σ' H') X.xe s
/-- several targets, one after another -/
def PGs (X : Cx) (ts : List Expr) (t : TGs) : Prop :=
  ∀ (pins : List (Addr × Obj)) (s : Shared) (σ : St) (H : Hp) (vs : List V) (us : List Value) (Q : St → Hp → Prop), Inv X pins σ H s → Vals vs us → t vs σ H Q →
    wpAny (model X.prog X.w) X.A (assignInOrder ((assignEach ts X.env).map (·.2)) us) (fun _ s' => ∃ σ' H', Inv X pins σ' H' s' ∧ Q σ' H') X.xe s
/-- o[i] = v, by values -/
abbrev TSet := V → V → V → Hp → (Hp → Prop) → Prop
def PSet (X : Cx) (t : TSet) : Prop :=
  ∀ (pins : List (Addr × Obj)) (s : Shared) (σ : St) (H : Hp) (o i v : V) (ov iv u : Value) (Q : Hp → Prop), Inv X pins σ H s → RelV o ov → RelV i iv → RelV v u → t o i v H Q →
    wpAny (model X.prog X.w) X.A (setItem ov iv u) (fun _ s' => ∃ H', Inv X pins σ H' s' ∧ Q H') X.xe s
/-- a op= b, by values -/
abbrev TIp := V → V → Hp → VK → Prop
def PIp (X : Cx) (op : Operator) (t : TIp) : Prop :=
  ∀ (pins : List (Addr × Obj)) (s : Shared) (σ : St) (H : Hp) (x y : V) (v u : Value) (Q : VK), Inv X pins σ H s → RelV x v → RelV y u → t x y H Q →
    wpAny (model X.prog X.w) X.A (inplaceOp op v u) (EP X pins σ Q) X.xe s
section
variable {X : Cx} {pos : Pos}
def gName (i : Nat) : TG := fun v σ H Q => Q (σ.set i (some v)) H
theorem pg_name {i : Nat} {x : Str} (hN : X.N.Nodup) (hi : X.N[i]? = some x) (hx : Loc X.env.scope x) (hf : X.fn x = true ∨ X.env.scope.names.lookup x = some .local := by first | exact .inl rfl | exact .inr rfl | assumption) : PG X (.Name x pos) (gName i) := by
  intro pins s σ H v u Q I r h
  exact wpAny_assign_Name (store_ok I hN hi hx r (fun s' I' => ⟨_, H, I', h⟩) hf)
def gNil : TGs := fun vs σ H Q => vs = [] ∧ Q σ H
def gCons (t : TG) (u : TGs) : TGs := fun vs σ H Q => ∃ v r, vs = v :: r ∧ t v σ H fun σ' H' => u r σ' H' Q
theorem pgs_nil : PGs X [] gNil := by
  intro pins s σ H vs us Q I r h
  obtain ⟨e, h⟩ := h
  subst e
  cases r
  exact assignInOrder_nil ⟨σ, H, I, h⟩
theorem pgs_cons {e : Expr} {es : List Expr} {t : TG} {u : TGs} (h1 : PG X e t) (h2 : PGs X es u)
    (hs : (assignEach (e :: es) X.env).map (·.2) = assign e X.env :: (assignEach es X.env).map (·.2) := by rfl) : PGs X (e :: es) (gCons t u) := by
  intro pins s σ H vs us Q I r h
  obtain ⟨v, vr, e1, h⟩ := h
  subst e1
  cases r with
  | cons r rr =>
    rw [hs]
    refine assignInOrder_cons (thn (h1 pins s σ H _ _ _ I r h) fun _ s1 ⟨σ1, H1, I1, q1⟩ => ?_)
    exact h2 pins s1 σ1 H1 _ _ Q I1 rr q1
/-- (a, b, ..) = a tuple of that length -/
def gTup (K : PySem.W.Frag) (n : Nat) (t : TGs) : TG := fun v σ H Q => ∃ a xs, v = .ref a ∧ SqT K H a xs ∧ xs.length = n ∧ t xs σ H Q
theorem pg_tup {es : List Expr} {k : Nat} {t : TGs} {n : Nat} (hc : X.calm = true) (h : PGs X es t)
    (hn : (assignEach es X.env).length = n := by rfl) (hst : (assignEach es X.env).findIdx? (·.1) = none := by rfl) : PG X (.Tuple es k pos) (gTup X.K n t) := by
  intro pins s σ H v u Q I r hw
  obtain ⟨a, xs, e1, hq, hl, hw⟩ := hw
  subst e1
  cases r
  obtain ⟨its, rv, ht, hz⟩ := I.tuple hq
  refine assign_Tuple_tuple (I.ok.hd hc) ht (by simp [hn, ← hl, rv.length]) hst fun h' hx => ?_
  have I1 : Inv X pins σ H { s with heap := h' } := I.kept (t' := s.toks) fun b o e => hx b o (Nat.ne_of_lt (Heap.lt_size e)) e
  exact h pins _ σ H xs _ Q I1 (by simpa using rv) hw
/-- o[i] = .. -/
def gSub (to ti : TE) (t : TSet) : TG := fun v σ H Q => to σ H fun o H1 => ti σ H1 fun i H2 => t o i v H2 fun H3 => Q σ H3
theorem pg_sub {o i : Expr} {to ti : TE} {t : TSet} (ho : PE X o to) (hi : PE X i ti) (hs : PSet X t)
    (ha : ∀ v, assign (.Subscript o i pos) X.env v = (do
      let ov ← holding [v] (eval o X.env)
      let iv ← holding [v, ov] (eval i X.env)
      standAt pos
      holding [v, ov, iv] (setItem ov iv v)
      release [v, ov, iv] []) := by intro _; rfl) : PG X (.Subscript o i pos) (gSub to ti t) := by
  intro pins s σ H v u Q I r h
  rw [ha]
  refine wpAny_bind (wpAny_holding (thn (ho pins s σ H _ I h) fun ov s1 ⟨x, H1, I1, r1, q1⟩ => ?_))
  refine wpAny_bind (wpAny_holding (thn (hi pins s1 σ H1 _ I1 q1) fun iv s2 ⟨y, H2, I2, r2, q2⟩ => ?_))
  refine wpAny_bind (wpAny_standAt (wpAny_bind (wpAny_holding (thn (hs pins s2 σ H2 x y v ov iv u _ I2 r1 r2 r q2) fun _ s3 ⟨H3, I3, q3⟩ => ?_))))
  exact wpAny_release ⟨σ, H3, I3, q3⟩
/-- target = value -/
def tAsg (te : TE) (g : TG) : TS := fun D σ H => te σ H fun x H1 => g x σ H1 D.nx
theorem ps_asg {tg e : Expr} {te : TE} {g : TG} (he : PE X e te) (hg : PG X tg g) (hs : swapsWithSole [tg] e pos.line X.env = pure false := by rfl) (hw : swappedStores [tg] e X.env = pure none := by rfl)
    (h1 : (assignEach [tg] X.env).map (·.2) = [assign tg X.env] := by rfl) : PS X (.Assign [tg] e pos) (tAsg te g) := by
  intro pins s σ H D I h
  refine wpAny_Assign_stores (thn (he pins s σ H _ I h) fun v s1 ⟨x, H1, I1, r1, q1⟩ => ?_) hs hw
  rw [h1]
  exact thn (hg pins s1 σ H1 x v _ I1 r1 q1) fun _ s2 q => q
/-- name = value -/
theorem ps_set {i : Nat} {x : Str} {e : Expr} {te : TE} {pos' : Pos} (hN : X.N.Nodup) (hi : X.N[i]? = some x) (hx : Loc X.env.scope x) (he : PE X e te) (hs : swapsWith e (some (.Name x pos')) pos.line X.env = pure false := by rfl) (hf : X.fn x = true ∨ X.env.scope.names.lookup x = some .local := by first | exact .inl rfl | exact .inr rfl | assumption) :
    PS X (.Assign [.Name x pos'] e pos) (tAsg te (gName i)) := by
  intro pins s σ H D I h
  refine wpAny_Assign_Name (thn (he pins s σ H _ I h) fun v s1 ⟨y, H1, I1, r1, q1⟩ => ?_) hs
  exact store_ok I1 hN hi hx r1 (fun s2 I2 => ⟨_, H1, I2, q1⟩) hf
/-- o[i] op= e -/
def tAugS (to ti te : TE) (tget : V → V → Hp → VK → Prop) (tip : TIp) (tset : TSet) : TS := fun D σ H => to σ H fun o H1 => ti σ H1 fun i H2 => tget o i H2 fun x H3 => te σ H3 fun y H4 => tip x y H4 fun z H5 => tset o i z H5 fun H6 => D.nx σ H6
/-- o[i], by values -/
def PGet (X : Cx) (t : V → V → Hp → VK → Prop) : Prop :=
  ∀ (pins : List (Addr × Obj)) (s : Shared) (σ : St) (H : Hp) (o i : V) (ov iv : Value) (Q : VK), Inv X pins σ H s → RelV o ov → RelV i iv → t o i H Q →
    wpAny (model X.prog X.w) X.A (getItem ov iv) (EP X pins σ Q) X.xe s
theorem ps_augS {o i e : Expr} {to ti te : TE} {tget : V → V → Hp → VK → Prop} {tip : TIp} {tset : TSet} {op : Operator} {tpos : Pos} (ho : PE X o to) (hi : PE X i ti) (hg : PGet X tget) (he : PE X e te) (hp : PIp X op tip) (hs : PSet X tset)
    (ha : ∀ ov iv new, augStore i ov iv new = (do holding [new, ov, iv] (setItem ov iv new); release [new, ov, iv] []; pure .next) := by intros; rfl) : PS X (.AugAssign (.Subscript o i tpos) op e pos) (tAugS to ti te tget tip tset) := by
  intro pins s σ H D I h
  refine wpAny_AugAssign_SubscriptAny (thn (ho pins s σ H _ I h) fun ov s1 ⟨x1, H1, I1, r1, q1⟩ => ?_) ha
  refine thn (hi pins s1 σ H1 _ I1 q1) fun iv s2 ⟨x2, H2, I2, r2, q2⟩ => ?_
  refine thn (hg pins s2 σ H2 x1 x2 ov iv _ I2 r1 r2 q2) fun old s3 ⟨x3, H3, I3, r3, q3⟩ => ?_
  refine thn (he pins s3 σ H3 _ I3 q3) fun v s4 ⟨x4, H4, I4, r4, q4⟩ => ?_
  refine thn (hp pins s4 σ H4 x3 x4 old v _ I4 r3 r4 q4) fun new s5 ⟨x5, H5, I5, r5, q5⟩ => ?_
  exact thn (hs pins s5 σ H5 x1 x2 x5 ov iv new _ I5 r1 r2 r5 q5) fun _ s6 ⟨H6, I6, q6⟩ => ⟨σ, H6, I6, q6⟩
/-- ints -/
def ipI (f : Int → Int → Int) : TIp := fun x y H Q => ∃ i j, x = .int i ∧ y = .int j ∧ Q (.int (f i j)) H
theorem ip_add : PIp X .Add (ipI fun i j => i + j) := by
  intro pins s σ H x y v u Q I r1 r2 h
  obtain ⟨i, j, e1, e2, q⟩ := h
  subst e1; subst e2
  obtain ⟨t, rfl⟩ := r1
  obtain ⟨t', rfl⟩ := r2
  exact iadd_int ⟨.int _, H, I.tok _, ⟨_, rfl⟩, q⟩
theorem ip_sub : PIp X .Sub (ipI fun i j => i - j) := by
  intro pins s σ H x y v u Q I r1 r2 h
  obtain ⟨i, j, e1, e2, q⟩ := h
  subst e1; subst e2
  obtain ⟨t, rfl⟩ := r1
  obtain ⟨t', rfl⟩ := r2
  exact isub_int ⟨.int _, H, I.tok _, ⟨_, rfl⟩, q⟩
end

section
variable {X : Cx} {pos : Pos}
end

/-- at turn i: it yields x (the heap may grow), or it stops -/
structure It where
  go : Nat → Hp → Prop
  yld : Nat → Hp → V → Hp → Prop
  stop : Nat → Hp → Prop
/-- the iterator's own objects may turn: they are not the frame's, not pinned, younger than the entry (or a comprehension's own) -/
def FpOk (X : Cx) (pins : List (Addr × Obj)) (H : Hp) (b : Addr) : Prop :=
  H b = none ∧ b ≠ X.env.locals ∧ b ∉ X.fs ∧ (b ∈ X.ex ∨ X.s₀.heap.objs.size ≤ b) ∧ (∀ x c, X.env.cells.lookup x = some c → c ≠ b) ∧ ∀ p ∈ X.pn ++ pins, p.1 ≠ b
theorem Inv.fpOk {X : Cx} {pins : List (Addr × Obj)} {σ : St} {H H' : Hp} {s : Shared} {b : Addr} (I : Inv X pins σ H s) (hb : s.heap.objs.size ≤ b) (hn : H' b = none) : FpOk X pins H' b := by
  refine ⟨hn, Nat.ne_of_gt (Nat.lt_of_lt_of_le I.lt hb), I.nofs hb, .inr (Nat.le_trans I.sz hb), fun x c e z => ?_, fun p hp z => ?_⟩
  · obtain ⟨v, q⟩ := I.cell x c e
    exact absurd (Nat.lt_of_lt_of_le q.lt (by rw [z]; exact hb)) (Nat.lt_irrefl _)
  · exact absurd (Nat.lt_of_lt_of_le (Heap.lt_size (I.pin p hp).1) (by rw [z]; exact hb)) (Nat.lt_irrefl _)
structure Turn (P : Program) (w : World) (K : PySem.W.Frag) (tg : Expr) (J : It) (fp : List Addr) (it : Addr) (tn : Nat → Heap → Prop) : Prop where
  mem : it ∈ fp
  obj : ∀ i h, tn i h → ∀ b ∈ fp, ∃ o, h.get? b = some o ∧ ∀ v, o.data ≠ .cell v
  keep : ∀ i h h', tn i h → (∀ b ∈ fp, ∀ o, h.get? b = some o → h'.get? b = some o) → tn i h'
  item : ∀ (X : Cx), X.prog = P → X.w = w → X.K = K → X.calm = true → ∀ (i : Nat) (pins : List (Addr × Obj)) (s : Shared) (σ : St) (H : Hp) (E : Value → Shared → Prop), Inv X pins σ H s → (∀ b ∈ fp, FpOk X pins H b) → tn i s.heap → J.go i H →
    wpAny (model P w) X.A (pyNext (.ref it)) (fun r s1 => ∃ u, r = some u ∧
      wpAny (model P w) X.A (letOwnedTupleGo tg (.ref it) u) (fun _ s2 => ∃ x H', Inv X pins σ H' s2 ∧ RelV x u ∧ J.yld i H x H' ∧ tn (i + 1) s2.heap ∧ ∀ b ∈ fp, H' b = none) E s1) E s
  done : ∀ (X : Cx), X.prog = P → X.w = w → X.K = K → X.calm = true → ∀ (i : Nat) (pins : List (Addr × Obj)) (s : Shared) (σ : St) (H : Hp) (E : Value → Shared → Prop), Inv X pins σ H s → (∀ b ∈ fp, FpOk X pins H b) → tn i s.heap → J.stop i H →
    wpAny (model P w) X.A (pyNext (.ref it)) (fun r s1 => r = none ∧ Inv X pins σ H s1) E s
  self : ∀ (A : Around) (i : Nat) (s : Shared) (Q : Value → Shared → Prop) (E : Value → Shared → Prop), tn i s.heap → Q (.ref it) s → wpAny (model P w) A (pyIter (.ref it)) Q E s
abbrev TI := St → Hp → (It → Hp → Prop) → Prop
/-- an iterator has come -/
def PIE (X : Cx) (pins : List (Addr × Obj)) (σ : St) (tg : Expr) (R : It → Hp → Prop) (itv : Value) (s2 : Shared) : Prop :=
  ∃ (it : Addr) (fp : List Addr) (tn : Nat → Heap → Prop) (J : It) (H' : Hp), itv = .ref it ∧ Inv X pins σ H' s2 ∧ Turn X.prog X.w X.K tg J fp it tn ∧ tn 0 s2.heap ∧ (∀ b ∈ fp, FpOk X pins H' b) ∧ R J H'
def PI (X : Cx) (tg iter : Expr) (wi : TI) : Prop :=
  ∀ (pins : List (Addr × Obj)) (s : Shared) (σ : St) (H : Hp) (R : It → Hp → Prop), Inv X pins σ H s → wi σ H R →
    wpAny (model X.prog X.w) X.A (eval iter X.env) (fun v s1 => wpAny (model X.prog X.w) X.A (pyIter v) (PIE X pins σ tg R) X.xe s1) X.xe s

/-- the step ahead of the store is nothing for an iterator that keeps no tuple -/
theorem go_of {M : Model} {A : Around} {E : Value → Shared → Prop} {s : Shared} {tg : Expr} {it : Addr} {u : Value} {o : Obj} {n : String} {vs : Array Value} {Q : Unit → Shared → Prop} (ho : s.heap.get? it = some o) (hc : o.cls = .type n) (hd : o.data = .fields vs)
    (hn : ["enumerate", "zip", "dict_itemiterator", "dict_reverseitemiterator", "odict_iterator", "itertools.zip_longest", "itertools.pairwise"].contains n = false) (hQ : Q () s) : wpAny M A (letOwnedTupleGo tg (.ref it) u) Q E s := by
  unfold letOwnedTupleGo
  cases tg <;> first
    | exact wpAny_pure hQ
    | (cases u <;> first
        | exact wpAny_pure hQ
        | (refine wpAny_bind (wpAny_load ho ?_)
           rw [hc, hd]
           show wpAny M A (if (["enumerate", "zip", "dict_itemiterator", "dict_reverseitemiterator", "odict_iterator", "itertools.zip_longest", "itertools.pairwise"].contains n && vs[0]? == some (rawInt _)) = true then _ else _) Q E s
           rw [if_neg (by intro h; rw [hn, Bool.false_and] at h; cases h)]
           exact wpAny_pure hQ))

/-- the list at a, as it stands at each turn (a loop may append to it) -/
def Itl (K : PySem.W.Frag) (a : Addr) : It :=
  ⟨fun i H => ∃ xs x, SqL K H a xs ∧ xs[i]? = some x, fun i H x H' => H' = H ∧ ∀ xs, SqL K H a xs → xs[i]? = some x, fun i H => ∃ xs, SqL K H a xs ∧ xs.length ≤ i⟩
/-- lo, lo + 1, .. (n of them) -/
def Itr (lo : Int) (n : Nat) : It := ⟨fun i _ => i < n, fun i H x H' => H' = H ∧ x = .int (lo + i), fun i _ => n ≤ i⟩
theorem turn_list {P : Program} {w : World} {K : PySem.W.Frag} {tg : Expr} (a it : Addr) : Turn P w K tg (Itl K a) [it] it (fun i h => h.IsListIter it a i) where
  mem := by simp
  obj := fun i h st b hb => by
    have e : b = it := by simpa using hb
    subst e
    obtain ⟨o, e, c, d⟩ := st
    exact ⟨o, e, fun v z => by rw [d] at z; cases z⟩
  keep := fun i h h' st k => st.at fun o e => k it (by simp) o e
  item := by
    intro X hP hw hK hc i pins s σ H E I hf st hg
    subst hP hw hK
    obtain ⟨xs, x, hq, hx⟩ := hg
    obtain ⟨its, rv, p, hz⟩ := I.list hq
    obtain ⟨u, hu, ru⟩ := rv.get hx
    obtain ⟨f0, f1, f2, f3, f4, f5⟩ := hf it (by simp)
    refine wpAny_pyNext_list_item st p.isList (x := u) (by simpa using hu) fun h' st' sb => ?_
    have I1 : Inv X pins σ H { s with heap := h' } := I.turned (t' := s.toks) (fun b o hb e => (sb.2 b hb).trans e) f0 f1 f3 f4 f5
    obtain ⟨o, e, c, d⟩ := id st'
    exact ⟨u, rfl, go_of (s := { s with heap := h' }) e c d (by decide) ⟨x, H, I1, ru, ⟨rfl, fun ys hy => by rw [I.list_inj hy hq]; exact hx⟩, st', fun b hb => (hf b hb).1⟩⟩
  done := by
    intro X hP hw hK hc i pins s σ H E I hf st hg
    subst hP hw hK
    obtain ⟨xs, hq, hx⟩ := hg
    obtain ⟨its, rv, p, hz⟩ := I.list hq
    obtain ⟨f0, f1, f2, f3, f4, f5⟩ := hf it (by simp)
    have hl := rv.length
    exact wpAny_pyNext_list_end (I.ok.hd hc) st p.isList (by simp; (first | lia | omega)) fun h' eb => ⟨rfl, I.turned (t' := s.toks) (fun b o hb e => eb b o hb e) f0 f1 f3 f4 f5⟩
  self := fun _ _ _ _ _ st h => wpAny_pyIter_listiter st h
theorem turn_range {P : Program} {w : World} {K : PySem.W.Frag} {tg : Expr} (it : Addr) (lo : Int) (n : Nat) : Turn P w K tg (Itr lo n) [it] it (fun i h => IsRangeIter h it (lo + (i : Nat) * 1) ((n : Int) - (i : Nat)) 1) where
  mem := by simp
  obj := fun i h st b hb => by
    have e : b = it := by simpa using hb
    subst e
    exact ⟨_, st, fun v z => by
      have z' : Data.fields _ = Data.cell v := z
      cases z'⟩
  keep := fun i h h' st k => k it (by simp) _ st
  item := by
    intro X hP hw hK hc i pins s σ H E I hf st hg
    subst hP hw hK
    obtain ⟨f0, f1, f2, f3, f4, f5⟩ := hf it (by simp)
    have W := Walks.range (prog := X.prog) (w := X.w) (I.ok.hd hc) it lo 1 n
    refine W.item i s _ _ hg st fun v h' tk hv st' kk => ?_
    obtain ⟨t, rfl⟩ := hv
    have I1 : Inv X pins σ H { s with heap := h', toks := tk } := I.turned (fun b o hb e => kk b o (by simpa using hb) e) f0 f1 f3 f4 f5
    refine ⟨_, rfl, go_of (s := { s with heap := h', toks := tk }) (n := "range_iterator") st' rfl rfl (by decide) ⟨.int (lo + i), H, I1, ⟨t, ?_⟩, ⟨rfl, rfl⟩, st', fun b hb => (hf b hb).1⟩⟩
    rw [Int.mul_one]
  done := by
    intro X hP hw hK hc i pins s σ H E I hf st hg
    subst hP hw hK
    obtain ⟨f0, f1, f2, f3, f4, f5⟩ := hf it (by simp)
    exact wpAny_pyNext_range_end (I.ok.hd hc) st (by have : n ≤ i := hg; (first | lia | omega)) fun h' eb => ⟨rfl, I.turned (t' := s.toks) (fun b o hb e => eb b o hb e) f0 f1 f3 f4 f5⟩
  self := fun _ _ _ _ _ st h => wpAny_pyIter_rangeiter st h
end L2

namespace L2
open PySem PySem.Spec PyProof.Rows
section
variable {X : Cx} {tg : Expr}
def iList (K : PySem.W.Frag) (tl : TE) : TI := fun σ H R => tl σ H fun x H1 => ∃ a, x = .ref a ∧ (∃ xs, SqL K H1 a xs) ∧ R (Itl K a) H1
theorem pi_list {l : Expr} {tl : TE} (hl : PE X l tl) : PI X tg l (iList X.K tl) := by
  intro pins s σ H R I h
  refine thn (hl pins s σ H _ I h) fun v s1 ⟨x, H1, I1, r1, q1⟩ => ?_
  obtain ⟨a, e, ⟨xs, hq⟩, q⟩ := q1
  subst e
  cases r1
  obtain ⟨its, rv, p, hz⟩ := I1.list hq
  refine wpAny_pyIter_list p.isList ?_
  refine ⟨s1.heap.objs.size, [s1.heap.objs.size], _, _, H1, rfl, I1.kept (t' := s1.toks) fun b o e => Heap.get?_push_of_some _ e, turn_list a _, ⟨_, Heap.get?_push_size _ rfl, rfl, rfl⟩, fun b hb => ?_, q⟩
  have e : b = s1.heap.objs.size := by simpa using hb
  subst e
  exact I1.fpOk (Nat.le_refl _) (I1.hok.fresh (Nat.le_refl _))
/-- a range object just made, walked -/
theorem range_it {pins : List (Addr × Obj)} {σ : St} {H : Hp} {s : Shared} {R : It → Hp → Prop} {E : Value → Shared → Prop} {lo hi : Int} {t u v : Tok} {tk : Nat} (I : Inv X pins σ H s) (h1 : -(2 ^ 62) ≤ lo) (h2 : lo < 2 ^ 62) (h3 : -(2 ^ 62) ≤ hi) (h4 : hi < 2 ^ 62)
    (q : R (Itr lo (hi - lo).toNat) H) : wpAny (model X.prog X.w) X.A (pyIter (.ref s.heap.objs.size)) (PIE X pins σ tg R) E { s with heap := s.heap.push { cls := .type "range", data := .fields #[.int lo t, .int hi u, .int 1 v] }, toks := tk } := by
  refine wpAny_pyIter_range (IsRange.new ..) (small_one h1 h2 h3 h4) ?_
  have I1 : Inv X pins σ H { s with heap := s.heap.push { cls := .type "range", data := .fields #[.int lo t, .int hi u, .int 1 v] }, toks := tk } := I.kept fun b o e => Heap.get?_push_of_some _ e
  refine ⟨(s.heap.push { cls := .type "range", data := .fields #[.int lo t, .int hi u, .int 1 v] }).objs.size, [(s.heap.push { cls := .type "range", data := .fields #[.int lo t, .int hi u, .int 1 v] }).objs.size], _, _, H, rfl,
    I1.kept (t' := tk) fun b o e => Heap.get?_push_of_some _ e, turn_range _ lo (hi - lo).toNat, ?_, fun b hb => ?_, q⟩
  · have e1 : lo + ((0 : Nat) : Int) * 1 = lo := by simp
    have e2 : (((hi - lo).toNat : Nat) : Int) - ((0 : Nat) : Int) = Builtin.Range.rangeSize lo hi 1 := by rw [rangeSize_one]; split <;> (first | lia | omega)
    show IsRangeIter _ _ (lo + ((0 : Nat) : Int) * 1) ((((hi - lo).toNat : Nat) : Int) - ((0 : Nat) : Int)) 1
    rw [e1, e2]
    exact Heap.get?_push_size _ rfl
  · have e : b = (s.heap.push { cls := .type "range", data := .fields #[.int lo t, .int hi u, .int 1 v] }).objs.size := by simpa using hb
    subst e
    exact I1.fpOk (Nat.le_refl _) (I1.hok.fresh (Nat.le_refl _))
def iRng1 (ta : TA) : TI := fun σ H R => ta σ H fun vs H1 => ∃ j : Int, vs = [.int j] ∧ -(2 ^ 62) ≤ j ∧ j < 2 ^ 62 ∧ R (Itr 0 j.toNat) H1
theorem pi_range1 {a : Expr} {ta : TA} {p pos : Pos} (hg : Gl X "range") (hm : X.mg "range" = none) (ha : PA X [a] ta) (hs : starEach [a] X.env = [(false, eval a X.env)] := by rfl) : PI X tg (.Call (.Name "range" p) [a] [] pos) (iRng1 ta) := by
  intro pins s σ H R I h
  refine Call_ (ld_blt I hg hm boot_range (PyProof.Rows.callWith_type1 (thn (ha pos pins s σ H _ I h) fun us s1 ⟨vs, H1, I1, r1, q1⟩ => ?_) hs rfl))
  obtain ⟨j, e, q1, q2, q⟩ := q1
  subst e
  cases r1 with
  | cons r rr =>
    cases rr
    obtain ⟨t, rfl⟩ := r
    exact call_range_1 (range_it I1 (by (first | lia | omega)) (by (first | lia | omega)) q1 q2 (by simpa using q))
/-- W: the invariant by the turn and a measure; N: what the body is to reach -/
def tFor (wi : TI) (g : TG) (tb : TS) : TS := fun D σ H => wi σ H fun J H1 => ∃ W : Nat → Nat → St → Hp → Prop, (∃ m, W 0 m σ H1) ∧ ∀ i m σ H, W i m σ H →
  (J.stop i H ∧ D.nx σ H) ∨ (J.go i H ∧ ∃ N : St → Hp → Prop, (∀ σ' H', N σ' H' → ∃ m', m' < m ∧ W (i + 1) m' σ' H') ∧ ∀ x H', J.yld i H x H' → g x σ H' fun σ2 H2 => tb { D with nx := N, ct := N, bk := D.nx } σ2 H2)
/-- the records at fp as they stand -/
def pinsAt (fp : List Addr) (h : Heap) : List (Addr × Obj) := fp.filterMap fun b => (h.get? b).map fun o => (b, o)
theorem mem_pinsAt {fp : List Addr} {h : Heap} {b : Addr} {o : Obj} (hb : b ∈ fp) (e : h.get? b = some o) : (b, o) ∈ pinsAt fp h := List.mem_filterMap.mpr ⟨b, hb, by rw [e]; rfl⟩
theorem of_pinsAt {fp : List Addr} {h : Heap} {p : Addr × Obj} (hp : p ∈ pinsAt fp h) : p.1 ∈ fp ∧ h.get? p.1 = some p.2 := by
  obtain ⟨b, hb, e⟩ := List.mem_filterMap.mp hp
  cases q : h.get? b with
  | none => rw [q] at e; cases e
  | some o =>
    rw [q] at e
    have e' : (b, o) = p := Option.some.inj e
    subst e'
    exact ⟨hb, q⟩
theorem Inv.pinned {pins : List (Addr × Obj)} {σ : St} {H : Hp} {s : Shared} {fp : List Addr} (I : Inv X pins σ H s) (hf : ∀ b ∈ fp, FpOk X pins H b) (ho : ∀ b ∈ fp, ∃ o, s.heap.get? b = some o ∧ ∀ v, o.data ≠ .cell v) : Inv X (pins ++ pinsAt fp s.heap) σ H s :=
  I.pins_of fun p hp => (List.mem_append.mp hp).elim (fun z => I.pin p (List.mem_append_right _ z)) fun z => by
    obtain ⟨hb, e⟩ := of_pinsAt z
    obtain ⟨f0, f1, f2, _⟩ := hf p.1 hb
    obtain ⟨o, e', d⟩ := ho p.1 hb
    rw [e] at e'; cases e'
    exact ⟨e, f0, f1, f2, d⟩
theorem Inv.unpinned {pins pl : List (Addr × Obj)} {σ : St} {H : Hp} {s : Shared} (I : Inv X (pins ++ pl) σ H s) : Inv X pins σ H s := I.pins_of fun p hp => I.pin p (List.mem_append_right _ (List.mem_append_left _ hp))
theorem ps_for {iter : Expr} {body : List Stmt} {wi : TI} {g : TG} {tb : TS} {pos : Pos} (hp : PassesOwn (model X.prog X.w) X.A X.env X.xe) (hc : X.calm = true) (hi : PI X tg iter wi) (hg : PG X tg g) (hb : PSs X body tb)
    (hs : ∀ x, foldedSetIterable iter X.env x = pure x := by intro _; rfl) : PS X (.For tg iter body [] pos) (tFor wi g tb) := by
  intro pins s σ H D I h
  refine wpAny_For (thn (hi pins s σ H _ I h) fun v s1 h1 => thn h1 fun itv s2 h2 => ?_) hs
  obtain ⟨it, fp, tn, J, H2, e, I2, T, st2, f2, W, ⟨m0, w0⟩, turn⟩ := h2
  subst e
  -- what stays true of the iterator's objects through the loop
  have stat : ∀ {H' : Hp}, (∀ b ∈ fp, H' b = none) → ∀ b ∈ fp, FpOk X pins H' b := fun hn b hb => ⟨hn b hb, (f2 b hb).2⟩
  refine codeAny_forLoop_any (fun n s' => ∃ i σ' H', Inv X pins σ' H' s' ∧ tn i s'.heap ∧ (∀ b ∈ fp, H' b = none) ∧ W i n σ' H') ?_ m0 ⟨0, σ, H2, I2, st2, fun b hb => (f2 b hb).1, w0⟩
  rintro n s3 ⟨i, σ3, H3, I3, st3, fr3, w3⟩
  rcases turn i n σ3 H3 w3 with ⟨stop, qn⟩ | ⟨go, N, hN, step⟩
  · refine wpAny_passesOwn hp (thn (T.done X rfl rfl rfl hc i pins s3 σ3 H3 X.xe I3 (stat fr3) st3 stop) fun r s4 ⟨hr, I4⟩ => ?_)
    subst hr
    exact wpAny_execs_nil ⟨σ3, H3, I4, qn⟩
  · refine wpAny_passesOwn hp (thn (T.item X rfl rfl rfl hc i pins s3 σ3 H3 X.xe I3 (stat fr3) st3 go) fun r s4 ⟨u, hr, h4⟩ => ?_)
    subst hr
    refine wpAny_passesOwn hp (thn h4 fun _ s5 ⟨x, H5, I5, r5, y5, st5, fr5⟩ => ?_)
    have I5' := I5.pinned (stat fr5) (T.obj _ _ st5)
    refine wpAny_passesOwn hp (thn (hg _ s5 σ3 H5 x u _ I5' r5 (step x H5 y5)) fun _ s6 ⟨σ6, H6, I6, q6⟩ => ?_)
    refine wpAny_passesOwn hp (thn (hb _ s6 σ6 H6 _ I6 q6) fun f s7 q7 => ?_)
    have again : ∀ {σ7 : St} {H7 : Hp}, Inv X (pins ++ pinsAt fp s5.heap) σ7 H7 s7 → N σ7 H7 → ∃ m, m < n ∧ ∃ i σ' H', Inv X pins σ' H' s7 ∧ tn i s7.heap ∧ (∀ b ∈ fp, H' b = none) ∧ W i m σ' H' := fun {σ7 H7} I7 n7 => by
      obtain ⟨m', hm, w7⟩ := hN σ7 H7 n7
      refine ⟨m', hm, i + 1, σ7, H7, I7.unpinned, T.keep _ _ _ st5 fun b hb o e => (I7.pin (b, o) (List.mem_append_right _ (List.mem_append_right _ (mem_pinsAt hb e)))).1, fun b hb => ?_, w7⟩
      obtain ⟨o, e, d⟩ := T.obj _ _ st5 b hb
      exact (I7.pin (b, o) (List.mem_append_right _ (List.mem_append_right _ (mem_pinsAt hb e)))).2.1
    cases f with
    | next => obtain ⟨σ7, H7, I7, n7⟩ := q7; exact again I7 n7
    | cont => obtain ⟨σ7, H7, I7, n7⟩ := q7; exact again I7 n7
    | brk => obtain ⟨σ7, H7, I7, q7⟩ := q7; exact ⟨σ7, H7, I7.unpinned, q7⟩
    | ret v => obtain ⟨x7, σ7, H7, I7, r7, q7⟩ := q7; exact ⟨x7, σ7, H7, I7.unpinned, r7, q7⟩
end

/-- over a list that the body leaves as it is -/
theorem for_list {K : PySem.W.Frag} {a : Addr} {xs : List V} {g : TG} {tb : TS} {D : Ends} {σ : St} {H : Hp} (Pv : Nat → St → Hp → Prop) (h0 : Pv 0 σ H) (hl : ∀ i σ H, i ≤ xs.length → Pv i σ H → SqL K H a xs)
    (hs : ∀ i x σ H, xs[i]? = some x → Pv i σ H → g x σ H fun σ2 H2 => tb { D with nx := Pv (i + 1), ct := Pv (i + 1), bk := D.nx } σ2 H2) (hd : ∀ σ H, Pv xs.length σ H → D.nx σ H) :
    ∃ W : Nat → Nat → St → Hp → Prop, (∃ m, W 0 m σ H) ∧ ∀ i m σ H, W i m σ H →
      ((Itl K a).stop i H ∧ D.nx σ H) ∨ ((Itl K a).go i H ∧ ∃ N : St → Hp → Prop, (∀ σ' H', N σ' H' → ∃ m', m' < m ∧ W (i + 1) m' σ' H') ∧ ∀ x H', (Itl K a).yld i H x H' → g x σ H' fun σ2 H2 => tb { D with nx := N, ct := N, bk := D.nx } σ2 H2) := by
  refine ⟨fun i m σ H => m = xs.length - i ∧ i ≤ xs.length ∧ Pv i σ H, ⟨xs.length, by simp, Nat.zero_le _, h0⟩, ?_⟩
  rintro i m σ H ⟨rfl, hi, p⟩
  have q := hl i σ H hi p
  by_cases hlt : i < xs.length
  · refine .inr ⟨⟨xs, xs[i], q, by simp [hlt]⟩, Pv (i + 1), fun σ' H' p' => ⟨xs.length - (i + 1), by (first | lia | omega), rfl, hlt, p'⟩, fun x H' y => ?_⟩
    obtain ⟨e, y⟩ := y
    subst e
    exact hs i x σ _ (y xs q) p
  · have e : i = xs.length := by (first | lia | omega)
    subst e
    exact .inl ⟨⟨xs, q, Nat.le_refl _⟩, hd σ H p⟩
theorem for_range {lo : Int} {n : Nat} {g : TG} {tb : TS} {D : Ends} {σ : St} {H : Hp} (Pv : Nat → St → Hp → Prop) (h0 : Pv 0 σ H)
    (hs : ∀ i σ H, i < n → Pv i σ H → g (.int (lo + i)) σ H fun σ2 H2 => tb { D with nx := Pv (i + 1), ct := Pv (i + 1), bk := D.nx } σ2 H2) (hd : ∀ σ H, Pv n σ H → D.nx σ H) :
    ∃ W : Nat → Nat → St → Hp → Prop, (∃ m, W 0 m σ H) ∧ ∀ i m σ H, W i m σ H →
      ((Itr lo n).stop i H ∧ D.nx σ H) ∨ ((Itr lo n).go i H ∧ ∃ N : St → Hp → Prop, (∀ σ' H', N σ' H' → ∃ m', m' < m ∧ W (i + 1) m' σ' H') ∧ ∀ x H', (Itr lo n).yld i H x H' → g x σ H' fun σ2 H2 => tb { D with nx := N, ct := N, bk := D.nx } σ2 H2) := by
  refine ⟨fun i m σ H => m = n - i ∧ i ≤ n ∧ Pv i σ H, ⟨n, by simp, Nat.zero_le _, h0⟩, ?_⟩
  rintro i m σ H ⟨rfl, hi, p⟩
  by_cases hlt : i < n
  · refine .inr ⟨hlt, Pv (i + 1), fun σ' H' p' => ⟨n - (i + 1), by (first | lia | omega), rfl, hlt, p'⟩, fun x H' y => ?_⟩
    obtain ⟨e, y⟩ := y
    subst e y
    exact hs i σ _ hlt p
  · have e : i = n := by (first | lia | omega)
    subst e
    exact .inl ⟨Nat.le_refl _, hd σ H p⟩
end L2

namespace L2
open PySem PySem.Spec PyProof.Rows

abbrev R2 := V → V → Hp → VK → Prop
/-- a two-place operation on values: f is binaryOp op, inplaceOp op or compareOp op -/
def OpR (X : Cx) (f : Value → Value → Sem Value) (r : R2) : Prop :=
  ∀ (pins : List (Addr × Obj)) (s : Shared) (σ : St) (H : Hp) (x y : V) (v u : Value) (Q : VK), Inv X pins σ H s → RelV x v → RelV y u → r x y H Q →
    wpAny (model X.prog X.w) X.A (f v u) (EP X pins σ Q) X.xe s
/-- a one-place operation -/
def UnR (X : Cx) (f : Value → Sem Value) (r : V → Hp → VK → Prop) : Prop :=
  ∀ (pins : List (Addr × Obj)) (s : Shared) (σ : St) (H : Hp) (x : V) (v : Value) (Q : VK), Inv X pins σ H s → RelV x v → r x H Q →
    wpAny (model X.prog X.w) X.A (f v) (EP X pins σ Q) X.xe s
/-- a call of a value that is known (a builtin, a type) with values -/
def CallR (X : Cx) (f : Value) (r : List V → Hp → VK → Prop) : Prop :=
  ∀ (pins : List (Addr × Obj)) (s : Shared) (σ : St) (H : Hp) (xs : List V) (us : List Value) (Q : VK), Inv X pins σ H s → Vals xs us → r xs H Q →
    wpAny (model X.prog X.w) X.A (call f us) (EP X pins σ Q) X.xe s
def tOp (r : R2) (ta tb : TE) : TE := fun σ H Q => ta σ H fun x H1 => tb σ H1 fun y H2 => r x y H2 Q
def tUn (r : V → Hp → VK → Prop) (ta : TE) : TE := fun σ H Q => ta σ H fun x H1 => r x H1 Q
/-- ints in, under C, and a value out -/
def rI (C : Int → Int → Prop) (g : Int → Int → V) : R2 := fun x y H Q => ∃ i j, x = .int i ∧ y = .int j ∧ C i j ∧ Q (g i j) H
def rI0 (g : Int → Int → V) : R2 := fun x y H Q => ∃ i j, x = .int i ∧ y = .int j ∧ Q (g i j) H
def rU (g : Int → V) : V → Hp → VK → Prop := fun x H Q => ∃ i, x = .int i ∧ Q (g i) H

section
variable {X : Cx} {a b c : Expr} {ta tb tc : TE} {pos : Pos}

theorem binT (ha : PE X a ta) (hb : PE X b tb) {pins : List (Addr × Obj)} {s : Shared} {σ : St} {H : Hp} {R : V → V → Hp → Prop} (I : Inv X pins σ H s)
    (h : ta σ H fun x H1 => tb σ H1 fun y H2 => R x y H2) {Q : Value → Shared → Prop} {f : Value → Value → Sem Value}
    (hf : ∀ v u s2 x y H2, Inv X pins σ H2 s2 → RelV x v → RelV y u → R x y H2 → wpAny (model X.prog X.w) X.A (f v u) Q X.xe s2) :
    wpAny (model X.prog X.w) X.A (eval a X.env) (fun v s₁ => wpAny (model X.prog X.w) X.A (eval b X.env) (fun u s₂ => wpAny (model X.prog X.w) X.A (f v u) Q X.xe s₂) X.xe s₁) X.xe s := by
  refine thn (ha pins s σ H _ I h) fun v s1 ⟨x, H1, I1, r1, q1⟩ => ?_
  refine thn (hb pins s1 σ H1 _ I1 q1) fun u s2 ⟨y, H2, I2, r2, q2⟩ => ?_
  exact hf v u s2 x y H2 I2 r1 r2 q2

theorem pe_op {op : Operator} {r : R2} (ho : OpR X (binaryOp op) r) (ha : PE X a ta) (hb : PE X b tb) : PE X (.BinOp a op b pos) (tOp r ta tb) := by
  intro pins s σ H Q I h
  exact wpAny_BinOp (binT ha hb I h fun v u s2 x y H2 I2 rx ry q => ho pins s2 σ H2 x y v u Q I2 rx ry q)
theorem pe_un {op : UnaryOp} {r : V → Hp → VK → Prop} (ho : UnR X (unaryOp op) r) (ha : PE X a ta) : PE X (.UnaryOp op a pos) (tUn r ta) := by
  intro pins s σ H Q I h
  exact UnaryOp_ (thn (ha pins s σ H _ I h) fun v s1 ⟨x, H1, I1, r1, q1⟩ => ho pins s1 σ H1 x v Q I1 r1 q1)
theorem opI {f : Value → Value → Sem Value} {C : Int → Int → Prop} {g : Int → Int → Int}
    (rule : ∀ (i j : Int) (t u : Tok) (s : Shared) (Q : Value → Shared → Prop) (E : Value → Shared → Prop), C i j → Q (.int (g i j) s.toks) { s with toks := s.toks + 1 } → wpAny (model X.prog X.w) X.A (f (.int i t) (.int j u)) Q E s) :
    OpR X f (rI C fun i j => .int (g i j)) := by
  intro pins s σ H x y v u Q I rx ry h
  obtain ⟨i, j, rfl, rfl, hc, q⟩ := h
  obtain ⟨t, rfl⟩ := rx
  obtain ⟨t', rfl⟩ := ry
  exact rule i j t t' s _ _ hc ⟨.int (g i j), H, I.tok _, ⟨_, rfl⟩, q⟩
theorem opI0 {f : Value → Value → Sem Value} {g : Int → Int → Int}
    (rule : ∀ (i j : Int) (t u : Tok) (s : Shared) (Q : Value → Shared → Prop) (E : Value → Shared → Prop), Q (.int (g i j) s.toks) { s with toks := s.toks + 1 } → wpAny (model X.prog X.w) X.A (f (.int i t) (.int j u)) Q E s) :
    OpR X f (rI0 fun i j => .int (g i j)) := by
  intro pins s σ H x y v u Q I rx ry h
  obtain ⟨i, j, rfl, rfl, q⟩ := h
  obtain ⟨t, rfl⟩ := rx
  obtain ⟨t', rfl⟩ := ry
  exact rule i j t t' s _ _ ⟨.int (g i j), H, I.tok _, ⟨_, rfl⟩, q⟩
theorem opB0 {f : Value → Value → Sem Value} {g : Int → Int → Bool}
    (rule : ∀ (i j : Int) (t u : Tok) (s : Shared) (Q : Value → Shared → Prop) (E : Value → Shared → Prop), Q (.bool (g i j)) s → wpAny (model X.prog X.w) X.A (f (.int i t) (.int j u)) Q E s) :
    OpR X f (rI0 fun i j => .bl (g i j)) := by
  intro pins s σ H x y v u Q I rx ry h
  obtain ⟨i, j, rfl, rfl, q⟩ := h
  obtain ⟨t, rfl⟩ := rx
  obtain ⟨t', rfl⟩ := ry
  exact rule i j t t' s _ _ ⟨.bl (g i j), H, I, rfl, q⟩

def CDiv (i j : Int) : Prop := 0 < j ∧ j < 1073741824
def CPow (i j : Int) : Prop := 0 ≤ j ∧ j ≤ 1000000 ∧ i.natAbs < 2 ^ 64
def CMul (i j : Int) : Prop := (-(2 ^ 64) < i ∧ i < 2 ^ 64) ∨ (-(2 ^ 64) < j ∧ j < 2 ^ 64)
theorem CMul.ok {i j : Int} (h : CMul i j) : IntMulOk i j := by
  rcases h with ⟨h1, h2⟩ | ⟨h1, h2⟩
  · exact .of_left (intBits_le_64 h1 h2)
  · exact .of_right (intBits_le_64 h1 h2)
theorem op_add : OpR X (binaryOp .Add) (rI0 fun i j => .int (i + j)) := opI0 fun _ _ _ _ _ _ _ q => add_int q
theorem op_sub : OpR X (binaryOp .Sub) (rI0 fun i j => .int (i - j)) := opI0 fun _ _ _ _ _ _ _ q => sub_int q
theorem op_mul : OpR X (binaryOp .Mult) (rI CMul fun i j => .int (i * j)) := opI fun _ _ _ _ _ _ _ hc q => mul_int q hc.ok
/-- // by a positive divisor -/
theorem op_fdiv : OpR X (binaryOp .FloorDiv) (rI CDiv fun i j => .int (i / j)) := opI fun i j _ _ _ _ _ hc q => by
  have h1 : (0 : Int) < j := hc.1
  have h2 : j < 1073741824 := hc.2
  exact floordiv_int (by (first | lia | omega)) (by rw [Int.fdiv_eq_ediv_of_nonneg i (by (first | lia | omega))]; exact q) (.inl (PyProof.noPylong_small (by (first | lia | omega))))
/-- % by a positive divisor of any size -/
theorem op_mod : OpR X (binaryOp .Mod) (rI (fun _ j => 0 < j) fun i j => .int (i % j)) := opI fun i j _ _ _ _ _ hc q => by
  have h1 : (0 : Int) < j := hc
  exact mod_int' (by (first | lia | omega)) (by rw [Int.fmod_eq_emod_of_nonneg i (by (first | lia | omega))]; exact q)
theorem op_pow : OpR X (binaryOp .Pow) (rI CPow fun i j => .int (i ^ j.toNat)) := opI fun _ _ _ _ _ _ _ hc q => pow_int_small hc.1 hc.2.1 hc.2.2 q
theorem unI {f : Value → Sem Value} {g : Int → Int}
    (rule : ∀ (i : Int) (t : Tok) (s : Shared) (Q : Value → Shared → Prop) (E : Value → Shared → Prop), Q (.int (g i) s.toks) { s with toks := s.toks + 1 } → wpAny (model X.prog X.w) X.A (f (.int i t)) Q E s) :
    UnR X f (rU fun i => .int (g i)) := by
  intro pins s σ H x v Q I rx h
  obtain ⟨i, rfl, q⟩ := h
  obtain ⟨t, rfl⟩ := rx
  exact rule i t s _ _ ⟨.int (g i), H, I.tok _, ⟨_, rfl⟩, q⟩
theorem un_neg : UnR X (unaryOp .USub) (rU fun i => .int (-i)) := unI fun _ _ _ _ _ q => neg_int q
end

/-- the scalars that == tells apart as data does -/
def scal : V → V → Bool
  | .non, .non => true | .non, .int _ => true | .int _, .non => true | .non, .bl _ => true | .bl _, .non => true | .non, .str _ => true | .str _, .non => true
  | .int _, .int _ => true | .bl _, .bl _ => true | .str _, .str _ => true | .byt _, .byt _ => true
  | .int _, .str _ => true | .str _, .int _ => true | .bl _, .str _ => true | .str _, .bl _ => true
  | _, _ => false
def rEq : R2 := fun x y H Q => scal x y = true ∧ Q (.bl (decide (x = y))) H
def rNe : R2 := fun x y H Q => scal x y = true ∧ Q (.bl (!decide (x = y))) H

theorem dec_int {i j : Int} : decide (V.int i = V.int j) = (i == j) := by
  rw [Bool.eq_iff_iff]
  simp
theorem dec_bl {i j : Bool} : decide (V.bl i = V.bl j) = (i == j) := by
  rw [Bool.eq_iff_iff]
  simp
theorem dec_str {i j : Str} : decide (V.str i = V.str j) = (i == j) := by
  rw [Bool.eq_iff_iff]
  simp
theorem dec_byt {i j : Array UInt8} : decide (V.byt i = V.byt j) = (i.toList == j.toList) := by
  rw [Bool.eq_iff_iff]
  cases i
  cases j
  simp

section
variable {X : Cx} {a b c : Expr} {ta tb tc : TE} {pos : Pos}
theorem fin_bl {pins : List (Addr × Obj)} {σ : St} {H : Hp} {s : Shared} {Q : VK} {k k' : Bool} (I : Inv X pins σ H s) (q : Q (.bl k) H) (e : k = k') : EP X pins σ Q (.bool k') s := by
  subst e
  exact ⟨.bl k, H, I, rfl, q⟩
theorem op_eq : OpR X (compareOp .Eq) rEq := by
  intro pins s σ H x y v u Q I rx ry h
  obtain ⟨hs, q⟩ := h
  cases x with
  | non =>
    cases rx
    cases y with
    | non => cases ry; exact PySem.EqNone.eq_none_none (fin_bl I q (by simp))
    | bl j => cases ry; exact PySem.EqNone.eq_none_bool (fin_bl I q (by simp))
    | int j => obtain ⟨t', rfl⟩ := ry; exact PySem.EqNone.eq_none_int (fin_bl I q (by simp))
    | str j => obtain ⟨t', rfl⟩ := ry; exact PySem.EqNone.eq_none_str (fin_bl I q (by simp))
    | _ => exact absurd (show false = true from hs) Bool.false_ne_true
  | bl i =>
    cases rx
    cases y with
    | non => cases ry; exact PySem.EqNone.eq_bool_none (fin_bl I q (by simp))
    | bl j => cases ry; exact eq_bool (fin_bl I q dec_bl)
    | str j => obtain ⟨t', rfl⟩ := ry; exact PySem.EqMixed.eq_bool_str (fin_bl I q (by simp))
    | _ => exact absurd (show false = true from hs) Bool.false_ne_true
  | int i =>
    obtain ⟨t, rfl⟩ := rx
    cases y with
    | non => cases ry; exact PySem.EqNone.eq_int_none (fin_bl I q (by simp))
    | int j => obtain ⟨t', rfl⟩ := ry; exact eq_int (fin_bl I q dec_int)
    | str j => obtain ⟨t', rfl⟩ := ry; exact PySem.EqMixed.eq_int_str (fin_bl I q (by simp))
    | _ => exact absurd (show false = true from hs) Bool.false_ne_true
  | str i =>
    obtain ⟨t, rfl⟩ := rx
    cases y with
    | non => cases ry; exact PySem.EqNone.eq_str_none (fin_bl I q (by simp))
    | bl j => cases ry; exact PySem.EqMixed.eq_str_bool (fin_bl I q (by simp))
    | int j => obtain ⟨t', rfl⟩ := ry; exact PySem.EqMixed.eq_str_int (fin_bl I q (by simp))
    | str j => obtain ⟨t', rfl⟩ := ry; exact eq_str (fin_bl I q dec_str)
    | _ => exact absurd (show false = true from hs) Bool.false_ne_true
  | byt i =>
    obtain ⟨t, rfl⟩ := rx
    cases y with
    | byt j => obtain ⟨t', rfl⟩ := ry; exact PySem.W.eq_bytes (fin_bl I q dec_byt)
    | _ => exact absurd (show false = true from hs) Bool.false_ne_true
  | _ => cases y <;> exact absurd (show false = true from hs) Bool.false_ne_true
theorem op_ne : OpR X (compareOp .NotEq) rNe := by
  intro pins s σ H x y v u Q I rx ry h
  obtain ⟨hs, q⟩ := h
  cases x with
  | non =>
    cases rx
    cases y with
    | non => cases ry; exact PySem.EqNone.ne_none_none (fin_bl I q (by simp))
    | bl j => cases ry; exact PySem.EqNone.ne_none_bool (fin_bl I q (by simp))
    | int j => obtain ⟨t', rfl⟩ := ry; exact PySem.EqNone.ne_none_int (fin_bl I q (by simp))
    | str j => obtain ⟨t', rfl⟩ := ry; exact PySem.EqNone.ne_none_str (fin_bl I q (by simp))
    | _ => exact absurd (show false = true from hs) Bool.false_ne_true
  | bl i =>
    cases rx
    cases y with
    | non => cases ry; exact PySem.EqNone.ne_bool_none (fin_bl I q (by simp))
    | bl j => cases ry; exact ne_bool (fin_bl I q (congrArg not dec_bl))
    | str j => obtain ⟨t', rfl⟩ := ry; exact PySem.EqMixed.ne_bool_str (fin_bl I q (by simp))
    | _ => exact absurd (show false = true from hs) Bool.false_ne_true
  | int i =>
    obtain ⟨t, rfl⟩ := rx
    cases y with
    | non => cases ry; exact PySem.EqNone.ne_int_none (fin_bl I q (by simp))
    | int j => obtain ⟨t', rfl⟩ := ry; exact ne_int (fin_bl I q (congrArg not dec_int))
    | str j => obtain ⟨t', rfl⟩ := ry; exact PySem.EqMixed.ne_int_str (fin_bl I q (by simp))
    | _ => exact absurd (show false = true from hs) Bool.false_ne_true
  | str i =>
    obtain ⟨t, rfl⟩ := rx
    cases y with
    | non => cases ry; exact PySem.EqNone.ne_str_none (fin_bl I q (by simp))
    | bl j => cases ry; exact PySem.EqMixed.ne_str_bool (fin_bl I q (by simp))
    | int j => obtain ⟨t', rfl⟩ := ry; exact PySem.EqMixed.ne_str_int (fin_bl I q (by simp))
    | str j => obtain ⟨t', rfl⟩ := ry; exact ne_str (fin_bl I q (congrArg not dec_str))
    | _ => exact absurd (show false = true from hs) Bool.false_ne_true
  | byt i =>
    obtain ⟨t, rfl⟩ := rx
    cases y with
    | byt j => obtain ⟨t', rfl⟩ := ry; exact PySem.W.ne_bytes (fin_bl I q (congrArg not dec_byt))
    | _ => exact absurd (show false = true from hs) Bool.false_ne_true
  | _ => cases y <;> exact absurd (show false = true from hs) Bool.false_ne_true

theorem op_lt : OpR X (compareOp .Lt) (rI0 fun i j => .bl (decide (i < j))) := opB0 fun _ _ _ _ _ _ _ q => lt_int q
theorem op_le : OpR X (compareOp .LtE) (rI0 fun i j => .bl (decide (i ≤ j))) := opB0 fun _ _ _ _ _ _ _ q => le_int q
theorem op_gt : OpR X (compareOp .Gt) (rI0 fun i j => .bl (decide (j < i))) := opB0 fun _ _ _ _ _ _ _ q => gt_int q
/-- the one string within the other -/
theorem op_in_str : OpR X (compareOp .In) (fun x y H Q => ∃ i j, x = .str i ∧ y = .str j ∧ Q (.bl (!(Builtin.Str.occurrences j i 0 j.length 1).isEmpty)) H) := by
  intro pins s σ H x y v u Q I rx ry h
  obtain ⟨i, j, rfl, rfl, q⟩ := h
  obtain ⟨t, rfl⟩ := rx
  obtain ⟨t', rfl⟩ := ry
  exact in_str (fin_bl I q rfl)

theorem nomark (b : Expr) {op : CmpOp} (h : op ≠ .In := by decide) (h2 : op ≠ .NotIn := by decide) : behindInMarks op b = false := by
  have e1 : (op == CmpOp.In) = false := by cases op <;> first | rfl | exact absurd rfl h
  have e2 : (op == CmpOp.NotIn) = false := by cases op <;> first | rfl | exact absurd rfl h2
  cases b <;> simp [behindInMarks, e1, e2]
/-- a comparison as a value; hm: nomark b, or (for in, not in) by with_unfolding_all rfl -/
theorem pe_cmpR {op : CmpOp} {r : R2} (ho : OpR X (compareOp op) r) (ha : PE X a ta) (hb : PE X b tb) (hm : behindInMarks op b = false) : PE X (.Compare a [op] [b] pos) (tOp r ta tb) := by
  intro pins s σ H Q I h
  exact wpAny_Compare1 (binT ha hb I h fun v u s2 x y H2 I2 rx ry q => ho pins s2 σ H2 x y v u Q I2 rx ry q) hm
/-- a reading of a value as a test -/
def tTest (t : TE) : TT := fun σ H Q => t σ H fun x H' => ∃ k, x = .bl k ∧ Q k H'
theorem pt_cmpR {op : CmpOp} {r : R2} (ho : OpR X (compareOp op) r) (ha : PE X a ta) (hb : PE X b tb) (hm : behindInMarks op b = false) : PT X (.Compare a [op] [b] pos) (tTest (tOp r ta tb)) := by
  intro pins s σ H Q I h
  refine wpAny_isTrue_Compare1 (thn (ha pins s σ H _ I h) fun v s1 ⟨x, H1, I1, r1, q1⟩ => thn (hb pins s1 σ H1 _ I1 q1) fun u s2 ⟨y, H2, I2, r2, q2⟩ =>
    thn (ho pins s2 σ H2 x y v u _ I2 r1 r2 q2) fun c s3 ⟨z, H3, I3, r3, k, e, q3⟩ => ?_) hm
  subst e
  cases r3
  exact wpAny_truthy_bool ⟨H3, I3, q3⟩
/-- a op1 b op2 c -/
def tChain (r r' : R2) (ta tb tc : TE) : TE := fun σ H Q => ta σ H fun x H1 => tb σ H1 fun y H2 => r x y H2 fun z H3 => ∃ k, z = .bl k ∧
  (if k = true then tc σ H3 fun w' H4 => r' y w' H4 Q else Q (.bl false) H3)
theorem pt_chain {op op' : CmpOp} {r r' : R2} (ho : OpR X (compareOp op) r) (ho' : OpR X (compareOp op') r') (ha : PE X a ta) (hb : PE X b tb) (hc : PE X c tc)
    (hm : lastMarks [op, op'] [b, c] = false := by with_unfolding_all rfl) : PT X (.Compare a [op, op'] [b, c] pos) (tTest (tChain r r' ta tb tc)) := by
  intro pins s σ H Q I h
  refine isTrue_chain (thn (ha pins s σ H _ I h) fun v s1 ⟨x, H1, I1, r1, q1⟩ => test_link (thn (hb pins s1 σ H1 _ I1 q1) fun u s2 ⟨y, H2, I2, r2, q2⟩ =>
    thn (ho pins s2 σ H2 x y v u _ I2 r1 r2 q2) fun d s3 ⟨z, H3, I3, r3, k, e, q3⟩ => ?_)) hm
  subst e
  cases r3
  refine wpAny_truthy_bool ?_
  cases k with
  | false =>
    obtain ⟨k', e', q'⟩ := q3
    cases e'
    exact ite_ff ⟨H3, I3, q'⟩
  | true =>
    refine ite_tt (test_last (thn (hc pins s3 σ H3 _ I3 q3) fun w' s4 ⟨z', H4, I4, r4, q4⟩ => thn (ho' pins s4 σ H4 y z' u w' _ I4 r2 r4 q4) fun d' s5 ⟨z2, H5, I5, r5, k2, e2, q5⟩ => ?_))
    subst e2
    cases r5
    exact wpAny_truthy_bool ⟨H5, I5, q5⟩

theorem line63 : (sizeLine : Nat) < 2 ^ 63 := by rw [sizeLine_eq]; decide
theorem op_add_str : OpR X (binaryOp .Add) (fun x y H Q => ∃ i j, x = .str i ∧ y = .str j ∧ i.length + j.length ≤ sizeLine ∧ Q (.str (i ++ j)) H) := by
  intro pins s σ H x y v u Q I rx ry h
  obtain ⟨i, j, rfl, rfl, hz, q⟩ := h
  obtain ⟨t, rfl⟩ := rx
  obtain ⟨t', rfl⟩ := ry
  exact add_str (fun t' tk => ⟨.str (i ++ j), H, I.tok _, ⟨_, rfl⟩, q⟩) hz
theorem vals1 {x : V} {us : List Value} (r : Vals [x] us) : ∃ u, us = [u] ∧ RelV x u := by
  cases r with
  | cons r1 r2 => cases r2; exact ⟨_, rfl, r1⟩
theorem vals2 {x y : V} {us : List Value} (r : Vals [x, y] us) : ∃ u w', us = [u, w'] ∧ RelV x u ∧ RelV y w' := by
  cases r with
  | cons r1 r2 =>
    cases r2 with
    | cons r3 r4 => cases r4; exact ⟨_, _, rfl, r1, r3⟩
theorem call_max2 (hc : X.calm = true) : CallR X (.builtin "max") (fun xs H Q => ∃ i j, xs = [.int i, .int j] ∧ Q (.int (if j > i then j else i)) H) := by
  intro pins s σ H xs us Q I r h
  obtain ⟨i, j, rfl, q⟩ := h
  obtain ⟨u, w', rfl, ⟨t, rfl⟩, ⟨t', rfl⟩⟩ := vals2 r
  refine max_two_ints (I.ok.hd hc) fun h' tk k => ⟨_, H, I.kept k, ?_, q⟩
  by_cases hj : j > i
  · rw [if_pos hj, if_pos hj]; exact ⟨_, rfl⟩
  · rw [if_neg hj, if_neg hj]; exact ⟨_, rfl⟩
theorem call_str_int : CallR X (.type "str") (fun xs H Q => ∃ i, xs = [.int i] ∧ i.natAbs.log2 < 1920 ∧ Q (.str (toString i)) H) := by
  intro pins s σ H xs us Q I r h
  obtain ⟨i, rfl, hz, q⟩ := h
  obtain ⟨u, rfl, t, rfl⟩ := vals1 r
  exact PySem.P.str_of_int hz ⟨.str _, H, I.tok _, ⟨_, rfl⟩, q⟩
end
end L2

namespace L2
open PySem PySem.Spec PyProof.Rows

structure ObjM (h : Heap) (x dx C : Addr) (mA : Str → Option Value) : Prop where
  obj : h.get? x = some (PySem.W.instObj C dx)
  ns : h.Ns1 dx mA
  ne : dx ≠ x

theorem lookIn_ns {h : Heap} {dx : Addr} {mA : Str → Option Value} (n : h.Ns1 dx mA) : ∃ od, h.get? dx = some od ∧ ∀ name, PySem.W.lookIn name od = some (mA name) := by
  obtain ⟨o, es, ep, ho, hd, hk, _, hm⟩ := n
  refine ⟨o, ho, fun name => ?_⟩
  have e := hm name
  unfold nsFind findBy at e
  rw [← Array.find?_toList] at e
  unfold PySem.W.lookIn
  rw [hd]
  dsimp only
  split
  · rename_i y q
    rw [q] at e
    exact congrArg some e
  · rename_i q
    rw [q] at e
    have a : es.toList.any (·.refKey) = false := by
      rw [List.any_eq_false]
      intro y hy
      obtain ⟨z, t, hkey⟩ := hk y (Array.mem_toList_iff.mp hy)
      simp [DictEntry.refKey, hkey]
    have a' : ¬ es.toList.any (·.refKey) = true := by rw [a]; exact Bool.false_ne_true
    rw [if_neg a']
    exact congrArg some e

theorem ObjM.look {h : Heap} {x dx C : Addr} {mA : Str → Option Value} (I : ObjM h x dx C mA) : ∃ od, PySem.W.InstAt h x (PySem.W.instObj C dx) C (some od) ∧ ∀ name, PySem.W.lookIn name od = some (mA name) :=
  let ⟨od, ho, hl⟩ := lookIn_ns I.ns
  ⟨od, ⟨I.obj, rfl, rfl, ho⟩, hl⟩

section
variable {prog : Program} {w : World} {A : Around} {E : Value → Shared → Prop} {s : Shared} {K : PySem.W.Frag} {x dx C f : Addr} {mA : Str → Option Value} {name : Str} {v : Value}

theorem get_map {expr : Bool} {Q : Value → Shared → Prop} (X : K.In s.heap) (I : ObjM s.heap x dx C mA) (hg : PySem.W.plainGet K C name = true) (hh : PySem.W.hasDictIn K C = true)
    (ha : PySem.W.findIn K (.ref C) name = some none) (hv : mA name = some v) (hv' : PySem.W.handedIn v = true) (h : Q v { s with toks := s.toks + 1 }) :
    wpAny (model prog w) A (getAttr (.ref x) name expr) Q E s := by
  obtain ⟨od, J, hl⟩ := I.look
  exact PySem.W.get_value X J (PySem.W.plainGet_of hg).1 (PySem.W.findObj_own hh ha rfl (by rw [hl, hv])) hv' h

theorem get_meth {pl : Sem Bool} {Q : Value × List Value → Shared → Prop} (X : K.In s.heap) (I : ObjM s.heap x dx C mA) (hg : PySem.W.plainGet K C name = true)
    (hf : PySem.W.findIn K (.ref C) name = some (some (.ref f))) (ht : PySem.W.isFn K (.ref f) = true) (hv : mA name = none) (h : Q (.ref f, [.ref x]) s) :
    wpAny (model prog w) A (getMethod (.ref x) name pl) Q E s := by
  obtain ⟨od, J, hl⟩ := I.look
  exact PySem.W.method_fn X J (PySem.W.plainGet_of hg).1 (PySem.W.plainGet_of hg).2 hf (beq_iff_eq.mp ht) (by show (PySem.W.lookIn name od).map (·.isSome) = some false; rw [hl, hv]; rfl) h

theorem set_map {ns : List Str} {Q : Unit → Shared → Prop} (X : K.In s.heap) (I : ObjM s.heap x dx C mA)
    (hs : PySem.W.findIn K (.ref C) "__setattr__" = some (some (.builtin "object.__setattr__"))) (hp : PySem.W.plainOver K C = true) (ht : PySem.W.takerIn K C name = some none) (hh : PySem.W.hasDictIn K C = true)
    (hw : PySem.Within mA ns) (hsz : ns.length ≤ sizeLine)
    (h : ∀ h', ObjM h' x dx C (fun y => if y = name then some v else mA y) → Heap.SameBut dx s.heap h' → Q () { s with heap := h', toks := s.toks + 2 }) :
    wpAny (model prog w) A (setAttr (.ref x) name v) Q E s := by
  obtain ⟨od, J, hl⟩ := I.look
  refine PySem.W.set_plain X J hs (PySem.W.osa_open (s := { s with toks := s.toks + 1 }) (r := none) X J hp ht fun b => ?_)
  obtain ⟨cd, hc, hd'⟩ := PySem.W.any_some hh
  have hx : s.heap.get? x = some ⟨.ref C, some dx, .plain, #[]⟩ := I.obj
  refine wpAny_bind (wpAny_pure (wpAny_bind (wpAny_bind (wpAny_loadPart hx (wpAny_bind (PySem.W.Looks.here (s := { s with toks := s.toks + 1 }) (PySem.W.looks_clsIn X hc) ?_))))))
  rw [hd']
  refine wpAny_pure (a := some dx) (wpAny_bind (wpAny_pure (wpAny_bind ?_)))
  refine wpAny_nsSet1 (s := { s with toks := s.toks + 1 }) I.ns fun h' hn2 hs2 => ?_
  obtain ⟨oD, esD, epD, hoD, hdD, hcD⟩ := hn2.count (PySem.Within.cons name v hw)
  refine wpAny_bind (wpAny_lookBehind hoD (by rw [hdD]; exact pastItsLine_dict (Nat.le_trans hcD (by rw [List.length_cons]; (first | lia | omega)))) ?_)
  exact wpAny_pure (h _ ⟨(hs2.2 _ (Ne.symm I.ne)).trans I.obj, hn2, I.ne⟩ hs2)

/-- C(..): the dict at the heap's end, the instance behind it; then its __init__ -/
theorem make_map {R : Result → Shared → Prop} {vs : List Value} {kw : List (Str × Value)} (X : K.In s.heap) (hm : PySem.W.makesIn K C = true)
    (hi : PySem.W.findIn K (.ref C) "__init__" = some (some (.ref f))) (hf : PySem.W.typeIn K (.ref f) = some (.type "function"))
    (h : codeAny (model prog w) (A.under (.builtin "type.__call__" ⟨.ref C :: vs, kw⟩)) (.call (.ref f) ⟨.ref (s.heap.objs.size + 1) :: vs, kw⟩) (PySem.W.InitBack (s.heap.objs.size + 1) R)
      { s with heap := (s.heap.push PySem.W.emptyDict).push (PySem.W.instObj C s.heap.objs.size) }) :
    codeAny (model prog w) A (.call (.ref C) ⟨vs, kw⟩) R s := by
  obtain ⟨hh, g, d, t, os⟩ := s
  exact PySem.W.make_core (PySem.W.makes_of X hm) (PySem.W.looks_findIn X hi) (fun self => PySem.W.bind_fn X self hf) (.inl rfl) h
end

def putF (f : Str) (v : V) : List (Str × V) → List (Str × V)
  | [] => [(f, v)]
  | (g, x) :: r => if g = f then (g, v) :: r else (g, x) :: putF f v r
theorem lookup_putF (f g : Str) (v : V) : ∀ fs : List (Str × V), (putF f v fs).lookup g = if g = f then some v else fs.lookup g
  | [] => by
    show List.lookup g [(f, v)] = _
    by_cases h : g = f
    · have hb : (g == f) = true := beq_iff_eq.mpr h
      simp only [List.lookup, hb, if_pos h]
    · have hb : (g == f) = false := beq_eq_false_iff_ne.mpr h
      simp only [List.lookup, hb, if_neg h]
  | (k, x) :: r => by
    have ih := lookup_putF f g v r
    rw [show putF f v ((k, x) :: r) = (if k = f then (k, v) :: r else (k, x) :: putF f v r) from rfl]
    by_cases hk : k = f
    · rw [if_pos hk]
      by_cases h : g = k
      · have hb : (g == k) = true := beq_iff_eq.mpr h
        simp only [List.lookup, hb, if_pos (h.trans hk)]
      · have hb : (g == k) = false := beq_eq_false_iff_ne.mpr h
        simp only [List.lookup, hb, if_neg (fun e : g = f => h (e.trans hk.symm))]
    · rw [if_neg hk]
      by_cases h : g = k
      · have hb : (g == k) = true := beq_iff_eq.mpr h
        simp only [List.lookup, hb, if_neg (fun e : g = f => hk (h.symm.trans e))]
      · have hb : (g == k) = false := beq_eq_false_iff_ne.mpr h
        simp only [List.lookup, hb]
        exact ih
theorem keys_putF (f : Str) (v : V) : ∀ fs : List (Str × V), f ∈ (putF f v fs).map (·.1) ∧ ∀ g, g ∈ fs.map (·.1) → g ∈ (putF f v fs).map (·.1)
  | [] => ⟨by simp [putF], fun g h => by simp at h⟩
  | (k, x) :: r => by
    obtain ⟨i1, i2⟩ := keys_putF f v r
    rw [show putF f v ((k, x) :: r) = (if k = f then (k, v) :: r else (k, x) :: putF f v r) from rfl]
    by_cases hk : k = f
    · rw [if_pos hk]
      subst hk
      exact ⟨by simp, fun g h => by simpa using h⟩
    · rw [if_neg hk]
      refine ⟨?_, fun g h => ?_⟩
      · rw [List.map_cons]
        exact List.mem_cons_of_mem _ i1
      · rw [List.map_cons] at h ⊢
        rcases List.mem_cons.mp h with e | e
        · exact List.mem_cons.mpr (.inl e)
        · exact List.mem_cons_of_mem _ (i2 g e)
theorem length_putF (f : Str) (v : V) : ∀ fs : List (Str × V), (putF f v fs).length ≤ fs.length + 1
  | [] => by simp [putF]
  | (k, x) :: r => by
    have ih := length_putF f v r
    rw [show putF f v ((k, x) :: r) = (if k = f then (k, v) :: r else (k, x) :: putF f v r) from rfl]
    by_cases hk : k = f
    · rw [if_pos hk, List.length_cons, List.length_cons]; (first | lia | omega)
    · rw [if_neg hk, List.length_cons, List.length_cons]; (first | lia | omega)

theorem RelO.some_of {v : V} {o : Option Value} (r : RelO (some v) o) : ∃ u, o = some u ∧ RelV v u := by
  cases o with
  | none => exact (show False from r).elim
  | some u => exact ⟨u, rfl, r⟩
theorem RelO.none_of {o : Option Value} (r : RelO none o) : o = none := by
  cases o with
  | none => rfl
  | some u => exact (show False from r).elim
theorem handed_of {v : V} {u : Value} (r : RelV v u) : PySem.W.handedIn u = true := by
  cases v with
  | non => cases (show u = Value.none from r); rfl
  | bl b => cases (show u = Value.bool b from r); rfl
  | int i => obtain ⟨t, e⟩ := (show ∃ t, u = Value.int i t from r); cases e; rfl
  | str x => obtain ⟨t, e⟩ := (show ∃ t, u = Value.str x t from r); cases e; rfl
  | byt b => obtain ⟨t, e⟩ := (show ∃ t, u = Value.bytes b t from r); cases e; rfl
  | flt b => obtain ⟨t, e⟩ := (show ∃ t, u = Value.float b t from r); cases e; rfl
  | ref a => cases (show u = Value.ref a from r); rfl
  | ty n => cases (show u = Value.type n from r); rfl

section
variable {P : Program} {w : World} {H H' : Hp} {h h' : Heap} {a C dx : Addr} {fs fs' : List (Str × V)}
theorem ins_get (hok : HOk P w H h) (e : H a = some (.ins C dx fs)) : ∃ mA, ObjM h a dx C mA ∧ (∀ f, RelO (fs.lookup f) (mA f)) ∧ PySem.Within mA (fs.map (·.1)) ∧ fs.length ≤ 1000 ∧ H dx = some (.own a) := by
  obtain ⟨d, z, ne, ob, mA, n, r, q⟩ := (show ObjOk P w H h a (.ins C dx fs) from hok a _ e)
  exact ⟨mA, ⟨ob, n, ne⟩, r, q, z, d⟩
end

structure Cls (K : PySem.W.Frag) (C : Addr) : Prop where
  pg : PySem.W.plainGet K C Str.empty = true
  hd : PySem.W.hasDictIn K C = true
  po : PySem.W.plainOver K C = true
  sa : PySem.W.findIn K (.ref C) "__setattr__" = some (some (.builtin "object.__setattr__"))
theorem Cls.get {K : PySem.W.Frag} {C : Addr} (c : Cls K C) (f : Str) : PySem.W.plainGet K C f = true := c.pg
/-- no class of it has the name -/
def NoAttr (K : PySem.W.Frag) (C : Addr) (f : Str) : Prop := PySem.W.findIn K (.ref C) f = some none
theorem NoAttr.taker {K : PySem.W.Frag} {C : Addr} {f : Str} (n : NoAttr K C f) : PySem.W.takerIn K C f = some none := by
  unfold PySem.W.takerIn
  rw [show PySem.W.findIn K (.ref C) f = some none from n]
  rfl
/-- a method: a plain def of the class or of one above it -/
structure Meth (K : PySem.W.Frag) (C : Addr) (m : Str) (f : Addr) : Prop where
  at_ : PySem.W.findIn K (.ref C) m = some (some (.ref f))
  fn : PySem.W.isFn K (.ref f) = true
  kp : PySem.W.keepIn K (.ref f) = true

section
variable {X : Cx} {pins : List (Addr × Obj)} {σ : St} {H : Hp} {s : Shared} {a C dx : Addr} {fs : List (Str × V)} {f : Str} {v : V} {A : Around} {E : Value → Shared → Prop}

theorem getattr_ok {b : Bool} {Q : Value → Shared → Prop} (I : Inv X pins σ H s) (e : H a = some (.ins C dx fs)) (c : Cls X.K C) (n : NoAttr X.K C f) (l : fs.lookup f = some v)
    (h : ∀ u s', Inv X pins σ H s' → RelV v u → Q u s') : wpAny (model X.prog X.w) A (getAttr (.ref a) f b) Q E s := by
  obtain ⟨mA, O, r, _, _, _⟩ := ins_get I.hok e
  obtain ⟨u, hu, ru⟩ := RelO.some_of (v := v) (o := mA f) (by rw [← l]; exact r f)
  exact get_map I.kIn O (c.get f) c.hd n hu (handed_of ru) (h u _ (I.tok _) ru)

theorem getmeth_ok {m : Str} {g : Addr} {pl : Sem Bool} {Q : Value × List Value → Shared → Prop} (I : Inv X pins σ H s) (e : H a = some (.ins C dx fs)) (c : Cls X.K C) (k : Meth X.K C m g) (l : fs.lookup m = none)
    (h : Q (.ref g, [.ref a]) s) : wpAny (model X.prog X.w) A (getMethod (.ref a) m pl) Q E s := by
  obtain ⟨mA, O, r, _, _, _⟩ := ins_get I.hok e
  have hn : mA m = none := RelO.none_of (by rw [← l]; exact r m)
  exact get_meth I.kIn O (c.get m) k.at_ k.fn hn h

theorem setattr_ok {y : V} {u : Value} {Q : Unit → Shared → Prop} (I : Inv X pins σ H s) (e : H a = some (.ins C dx fs)) (c : Cls X.K C) (n : NoAttr X.K C f) (hl : fs.length < 1000) (ry : RelV y u)
    (h : ∀ s', Inv X pins σ (upd H a (.ins C dx (putF f y fs))) s' → Q () s') : wpAny (model X.prog X.w) A (setAttr (.ref a) f u) Q E s := by
  obtain ⟨mA, O, r, wi, _, ho⟩ := ins_get I.hok e
  have hz : (fs.map (·.1)).length ≤ sizeLine := by rw [List.length_map, sizeLine_eq]; (first | lia | omega)
  refine set_map I.kIn O c.sa c.po n.taker c.hd wi hz fun h' O' sb => h _ ?_
  have hd : ∃ o, h'.get? dx = some o := let ⟨o, _, _, e', _⟩ := O'.ns; ⟨o, e'⟩
  refine I.write (x := a) (e := dx) (by rw [e]; exact True.intro) (.inr ho) (fun b q hb z => (sb.2 b hb).trans z) hd ?_
  refine ⟨by rw [upd_ne O.ne]; exact ho, ?_, O.ne, O'.obj, _, O'.ns, fun g => ?_, fun g hg => ?_⟩
  · have := length_putF f y fs; (first | lia | omega)
  · show RelO ((putF f y fs).lookup g) (if g = f then some u else mA g)
    rw [lookup_putF]
    by_cases q : g = f
    · rw [if_pos q, if_pos q]; exact ry
    · rw [if_neg q, if_neg q]; exact r g
  · by_cases q : g = f
    · rw [q]; exact (keys_putF f y fs).1
    · refine (keys_putF f y fs).2 g (wi g fun z => hg ?_)
      show (if g = f then some u else mA g) = none
      rw [if_neg q]; exact z

/-- a new instance, tracked, without attributes -/
theorem Inv.made (I : Inv X pins σ H s) : Inv X pins σ (upd (upd H s.heap.objs.size (.own (s.heap.objs.size + 1))) (s.heap.objs.size + 1) (.ins C s.heap.objs.size []))
    { s with heap := (s.heap.push PySem.W.emptyDict).push (PySem.W.instObj C s.heap.objs.size) } := by
  have e1 : (s.heap.push PySem.W.emptyDict).get? s.heap.objs.size = some PySem.W.emptyDict := Heap.get?_push_size s.heap rfl
  have e2 : ((s.heap.push PySem.W.emptyDict).push (PySem.W.instObj C s.heap.objs.size)).get? (s.heap.objs.size + 1) = some (PySem.W.instObj C s.heap.objs.size) := by
    have := Heap.get?_push_size (s.heap.push PySem.W.emptyDict) (o := PySem.W.instObj C s.heap.objs.size) rfl
    rwa [Heap.size_push] at this
  have e3 : (s.heap.push PySem.W.emptyDict).Ns s.heap.objs.size (fun _ => none) := ⟨PySem.W.emptyDict, #[], _, e1, rfl, (fun e he => absurd he (by simp)), fun _ => rfl⟩
  have I1 := I.laid (a := s.heap.objs.size) (o := .own (s.heap.objs.size + 1)) (h' := s.heap.push PySem.W.emptyDict) (t' := s.toks) (fun b u q => Heap.get?_push_of_some _ q) (Nat.le_refl _) ⟨_, e1⟩
  refine I1.laid (a := s.heap.objs.size + 1) (o := .ins C s.heap.objs.size []) (t' := s.toks) (fun b u q => Heap.get?_push_of_some _ q) (Nat.le_of_eq (Heap.size_push _ _)) ?_
  have ne : s.heap.objs.size ≠ s.heap.objs.size + 1 := Nat.ne_of_lt (Nat.lt_succ_self _)
  refine ⟨by rw [upd_ne ne, upd_same], Nat.zero_le _, ne, e2, fun _ => none, (Heap.Ns1.of_empty e3).at fun o q => Heap.get?_push_of_some _ q, fun _ => True.intro, fun y hy => absurd rfl hy⟩

/-- e.f where nothing but the object is asked: through attributeBase (super) and the last hold -/
theorem attr_of {prog : Program} {w : World} {env : Env} {e : Expr} {f : Str} {pos : Pos} {s : Shared} {Q : Value → Shared → Prop} (hb : attributeBase e f env (eval e env) = eval e env)
    (h : wpAny (model prog w) A (eval e env) (fun o s₁ => wpAny (model prog w) A (getAttr o f true) Q E s₁) E s) : wpAny (model prog w) A (eval (.Attribute e f pos) env) Q E s :=
  Attribute_any_ h (by rw [arm_eval_Attribute, hb])
end

/-- e.f, an attribute of the instance -/
def tFld (K : PySem.W.Frag) (ta : TE) (f : Str) : TE := fun σ H Q => ta σ H fun x H1 => ∃ a C dx fs v, x = .ref a ∧ H1 a = some (.ins C dx fs) ∧ Cls K C ∧ NoAttr K C f ∧ fs.lookup f = some v ∧ Q v H1
/-- e.f = value -/
def sFld (K : PySem.W.Frag) (ta tv : TE) (f : Str) : TS := fun D σ H => tv σ H fun y H1 => ta σ H1 fun x H2 => ∃ a C dx fs, x = .ref a ∧ H2 a = some (.ins C dx fs) ∧ Cls K C ∧ NoAttr K C f ∧ fs.length < 1000 ∧
  D.nx σ (upd H2 a (.ins C dx (putF f y fs)))
/-- an augmented operator on two values -/
def InOp (X : Cx) (op : Operator) (rd : V → V → Hp → VK → Prop) : Prop :=
  ∀ (pins : List (Addr × Obj)) (s : Shared) (σ : St) (H : Hp) (x y : V) (u v : Value) (Q : VK), Inv X pins σ H s → RelV x u → RelV y v → rd x y H Q → wpAny (model X.prog X.w) X.A (inplaceOp op u v) (EP X pins σ Q) X.xe s
/-- e.f op= value -/
def sFldAug (K : PySem.W.Frag) (ta tv : TE) (rd : V → V → Hp → VK → Prop) (f : Str) : TS := fun D σ H => ta σ H fun x H1 => ∃ a C dx fs v, x = .ref a ∧ H1 a = some (.ins C dx fs) ∧ Cls K C ∧ NoAttr K C f ∧ fs.lookup f = some v ∧
  tv σ H1 fun y H2 => rd v y H2 fun z H3 => ∃ dx' fs', H3 a = some (.ins C dx' fs') ∧ fs'.length < 1000 ∧ D.nx σ (upd H3 a (.ins C dx' (putF f z fs')))

section
variable {X : Cx} {o e value : Expr} {f : Str} {pos pos' tpos : Pos} {ta tv : TE}
theorem pe_fld (he : PE X e ta) (hb : attributeBase e f X.env (eval e X.env) = eval e X.env) : PE X (.Attribute e f pos) (tFld X.K ta f) := by
  intro pins s σ H Q I h
  refine attr_of hb (thn (he pins s σ H _ I h) fun u s1 ⟨x, H1, I1, rx, a, C, dx, fs, v, ex, ea, c, n, l, q⟩ => ?_)
  subst ex
  obtain rfl : u = Value.ref a := rx
  exact getattr_ok I1 ea c n l fun u' s2 I2 ru => ⟨v, H1, I2, ru, q⟩
theorem ps_fld (ha : PE X o ta) (hv : PE X value tv) (hs : swapsWith value (some (.Attribute o f pos')) pos.line X.env = pure false) : PS X (.Assign [.Attribute o f pos'] value pos) (sFld X.K ta tv f) := by
  intro pins s σ H D I h
  refine plainObj_wpAny_Assign_Attribute (thn (hv pins s σ H _ I h) fun u s1 ⟨y, H1, I1, ry, q⟩ => thn (ha pins s1 σ H1 _ I1 q) fun ov s2 ⟨x, H2, I2, rx, a, C, dx, fs, ex, ea, c, n, l, q2⟩ => ?_) hs
  subst ex
  obtain rfl : ov = Value.ref a := rx
  exact setattr_ok I2 ea c n l ry fun s3 I3 => ⟨σ, _, I3, q2⟩
theorem ps_fldaug {op : Operator} {rd : V → V → Hp → VK → Prop} (ha : PE X o ta) (hv : PE X value tv) (hop : InOp X op rd) : PS X (.AugAssign (.Attribute o f tpos) op value pos) (sFldAug X.K ta tv rd f) := by
  intro pins s σ H D I h
  refine wpAny_AugAssign_AttributeAny (thn (ha pins s σ H _ I h) fun ov s1 ⟨x, H1, I1, rx, a, C, dx, fs, v, ex, ea, c, n, l, q⟩ => ?_)
  subst ex
  obtain rfl : ov = Value.ref a := rx
  refine getattr_ok I1 ea c n l fun u s2 I2 ru => thn (hv pins s2 σ H1 _ I2 q) fun w3 s3 ⟨y, H2, I3, ry, q3⟩ => thn (hop pins s3 σ H2 v y u w3 _ I3 ru ry q3) fun w4 s4 ⟨z, H3, I4, rz, dx', fs', ea', l', q4⟩ => ?_
  exact setattr_ok I4 ea' c n l' rz fun s5 I5 => ⟨σ, _, I5, q4⟩
def rAdd : V → V → Hp → VK → Prop := fun x y H Q => ∃ i j, x = .int i ∧ y = .int j ∧ Q (.int (i + j)) H
theorem in_add : InOp X .Add rAdd := by
  rintro pins s σ H x y u v Q I rx ry ⟨i, j, rfl, rfl, q⟩
  obtain ⟨t, rfl⟩ := (show ∃ t, u = Value.int i t from rx)
  obtain ⟨t', rfl⟩ := (show ∃ t', v = Value.int j t' from ry)
  exact PyProof.Rows.iadd_int ⟨.int (i + j), H, I.tok _, ⟨_, rfl⟩, q⟩
end

section
variable {X : Cx} {pins : List (Addr × Obj)} {σ : St} {H : Hp} {s : Shared} {A : Around} {E : Value → Shared → Prop} {Q : Value → Shared → Prop} {c : Value} {b : Bool}
/-- the type of a value, as the fragment's deciders take it; for an instance its class -/
inductive TyOf (K : PySem.W.Frag) (H : Hp) : V → Value → Prop where
  | non : TyOf K H .non (.type "NoneType")
  | bl (x : Bool) : TyOf K H (.bl x) (.type "bool")
  | int (i : Int) : TyOf K H (.int i) (.type "int")
  | str (x : Str) : TyOf K H (.str x) (.type "str")
  | flt (x : UInt64) : TyOf K H (.flt x) (.type "float")
  | lst {a : Addr} {xs : List V} (e : H a = some (.lst xs)) : TyOf K H (.ref a) (.type "list")
  | frz {a : Addr} {o : Obj} {xs : List V} (e : H a = some (.frz o (.lst xs))) : TyOf K H (.ref a) (.type "list")
  | tup {a : Addr} {xs : List V} (e : H a = some (.tup xs)) : TyOf K H (.ref a) (.type "tuple")
  | dK {a : Addr} {kvs : List (Key × V)} (e : H a = some (.dK kvs)) : TyOf K H (.ref a) (.type "dict")
  | dT {a : Addr} {kvs : List (List Key × V)} (e : H a = some (.dT kvs)) : TyOf K H (.ref a) (.type "dict")
  | ins {a C dx : Addr} {fs : List (Str × V)} (e : H a = some (.ins C dx fs)) (cl : Cls K C) (ha : PySem.W.findIn K (.ref C) "__class__" = some (some (.builtin "object.__class__")))
      (hn : PySem.W.specialIn K (.builtin "object.__class__") "__get__" = some (some (.builtin "getset_descriptor.__get__"))) (htk : PySem.W.takesIn K (.builtin "object.__class__") = some true)
      (hm : PySem.W.mroIn K C (.type "object") = some true) : TyOf K H (.ref a) (.ref C)
/-- isinstance(x, c) for one class c, a built-in or an own one: kitOne's answer -/
theorem isinst_ok {x : V} {u t : Value} (I : Inv X pins σ H s) (rx : RelV x u) (ty : TyOf X.K H x t) (e : PySem.W.kitOne X.K t c = some b) (h : ∀ tk, Q (.bool b) { s with toks := tk }) :
    wpAny (model X.prog X.w) A (call (.builtin "isinstance") [u, c]) Q E s := by
  cases ty with
  | non => cases (show u = Value.none from rx); exact PySem.W.kia_one PySem.W.kitx_none I.kIn True.intro e (fun z => nomatch z) h
  | bl y => cases (show u = Value.bool y from rx); exact PySem.W.kia_one PySem.W.kitx_bool I.kIn True.intro e (fun z => nomatch z) h
  | int i => obtain ⟨t, q⟩ := (show ∃ t, u = Value.int i t from rx); cases q; exact PySem.W.kia_one PySem.W.kitx_int I.kIn True.intro e (fun z => nomatch z) h
  | str y => obtain ⟨t, q⟩ := (show ∃ t, u = Value.str y t from rx); cases q; exact PySem.W.kia_one PySem.W.kitx_str I.kIn True.intro e (fun z => nomatch z) h
  | flt y => obtain ⟨t, q⟩ := (show ∃ t, u = Value.float y t from rx); cases q; exact PySem.W.kia_one PySem.W.kitx_float I.kIn True.intro e (fun z => nomatch z) h
  | @lst a xs ea =>
    cases (show u = Value.ref a from rx)
    obtain ⟨_, _, n, _, h1⟩ := (show ObjOk X.prog X.w H s.heap a (.lst xs) from I.hok a _ ea)
    exact PySem.W.kia_one PySem.W.kitx_list I.kIn ⟨_, h1, rfl⟩ e (fun z => nomatch z) h
  | @frz a ob xs ea =>
    cases (show u = Value.ref a from rx)
    obtain ⟨_, _, _, n, _, h1⟩ := (show ObjOk X.prog X.w H s.heap a (.frz ob (.lst xs)) from I.hok a _ ea)
    exact PySem.W.kia_one PySem.W.kitx_list I.kIn ⟨_, h1, rfl⟩ e (fun z => nomatch z) h
  | @tup a xs ea =>
    cases (show u = Value.ref a from rx)
    obtain ⟨_, _, _, p⟩ := (show ObjOk X.prog X.w H s.heap a (.tup xs) from I.hok a _ ea)
    obtain ⟨o, h1, h2, _⟩ := p
    exact PySem.W.kia_one PySem.W.kitx_tuple I.kIn ⟨o, h1, h2⟩ e (fun z => nomatch z) h
  | @dK a kvs ea =>
    cases (show u = Value.ref a from rx)
    obtain ⟨_, _, vs, _, p⟩ := (show ObjOk X.prog X.w H s.heap a (.dK kvs) from I.hok a _ ea)
    obtain ⟨o, es, ep, h1, h2, _⟩ := p
    exact PySem.W.kia_one PySem.W.kitx_dict I.kIn ⟨o, h1, h2.1⟩ e (fun z => nomatch z) h
  | @dT a kvs ea =>
    cases (show u = Value.ref a from rx)
    obtain ⟨_, _, xs, _, o, es, ep, h1, h2, _⟩ := (show ObjOk X.prog X.w H s.heap a (.dT kvs) from I.hok a _ ea)
    exact PySem.W.kia_one PySem.W.kitx_dict I.kIn ⟨o, h1, h2.1⟩ e (fun z => nomatch z) h
  | @ins a C dx fs ea cl ha hn htk hm =>
    cases (show u = Value.ref a from rx)
    obtain ⟨mA, O, _⟩ := ins_get I.hok ea
    obtain ⟨od, J, _⟩ := O.look
    exact PySem.W.kia_one (PySem.W.kitx_own (cl.get _) cl.hd ha hn htk hm) I.kIn J e (fun z => nomatch z) h
end
end L2

namespace L2
open PySem PySem.Spec PyProof.Rows

structure Room (k : Nat) (A : Around) : Prop where
  hd : A.handled = none
  dp : A.depth + 3 * k + 5 < recursionLimit
  un : A.units + 16 * k + 200 < cLine
theorem Room.mono {j k : Nat} {A : Around} (r : Room k A) (h : j ≤ k) : Room j A := ⟨r.hd, by have := r.dp; (first | lia | omega), by have := r.un; (first | lia | omega)⟩
theorem Room.deeper {k : Nat} {A : Around} (r : Room (k + 1) A) (env : Env) : Room k (A.deeper env) :=
  ⟨r.hd, by have := r.dp; show A.depth + 1 + 3 * k + 5 < _; (first | lia | omega), by have := r.un; show A.units + 3 + 16 * k + 200 < _; (first | lia | omega)⟩
theorem make_depth {A : Around} {C : Addr} {us : List Value} {kw : List (Str × Value)} : (A.under (.builtin "type.__call__" ⟨.ref C :: us, kw⟩)).depth = A.depth + 1 := by
  first | rfl | simp [Around.under, Code.weight, Code.isCreation, Code.isGuard, Code.isCaller, Code.frames, Code.isFrame, guardIds]
theorem make_units {A : Around} {C : Addr} {us : List Value} {kw : List (Str × Value)} : (A.under (.builtin "type.__call__" ⟨.ref C :: us, kw⟩)).units = A.units + 1 := by
  first | rfl | simp [Around.under, Code.cUnits, Code.frames, Code.isFrame]
theorem Room.make {k : Nat} {A : Around} (r : Room (k + 1) A) (C : Addr) (us : List Value) (kw : List (Str × Value)) : Room k (A.under (.builtin "type.__call__" ⟨.ref C :: us, kw⟩)) :=
  ⟨r.hd, by have := r.dp; rw [make_depth]; (first | lia | omega), by have := r.un; rw [make_units]; (first | lia | omega)⟩
theorem Room.depth {k : Nat} {A : Around} (r : Room k A) : A.depth < recursionLimit := by have := r.dp; (first | lia | omega)
theorem Room.units {k : Nat} {A : Around} (r : Room k A) : A.units + 64 < cLine := by have := r.un; (first | lia | omega)
def tNil : TA := fun _ H Q => Q [] H
def tCons (ta : TE) (tr : TA) : TA := fun σ H Q => ta σ H fun x H1 => tr σ H1 fun xs H2 => Q (x :: xs) H2
section
variable {X : Cx} {e : Expr} {es : List Expr} {te : TE} {t : TA} {pos : Pos}
theorem pa_nil : PA X [] tNil := fun _ _ _ _ H Q I h => Calls.spliced_nil ⟨[], H, I, .nil, h⟩
theorem pa_cons (ha : PE X e te) (hr : PA X es t) (hs : starEach (e :: es) X.env = (false, eval e X.env) :: starEach es X.env := by rfl) : PA X (e :: es) (tCons te t) := by
  intro pos pins s σ H Q I h
  rw [hs]
  show wpAny _ _ (spliced ((false, eval e X.env) :: backTo pos (starEach es X.env))) _ _ s
  refine Calls.spliced_cons (thn (ha pins s σ H _ I h) fun u s1 ⟨x, H1, I1, r1, q1⟩ => ?_)
  exact thn (hr pos pins s1 σ H1 _ I1 q1) fun us s2 ⟨xs, H2, I2, r2, q2⟩ => ⟨x :: xs, H2, I2, .cons r1 r2, q2⟩

def tLst (t : TA) : TE := fun σ H Q => t σ H fun xs H1 => xs.length ≤ sizeLine ∧ ∀ p, H1 p = none → Q (.ref p) (upd H1 p (.lst xs))
theorem pe_lst (h : PA X es t) : PE X (.List es pos) (tLst t) := by
  intro pins s σ H Q I hq
  refine wpAny_List_spliced (thn (h pos pins s σ H _ I hq) fun us s1 ⟨xs, H1, I1, r, z, q⟩ => ⟨by rw [← r.length]; exact z, ?_⟩)
  have hf : H1 s1.heap.objs.size = none := I1.hok.fresh (Nat.le_refl _)
  refine ⟨.ref s1.heap.objs.size, upd H1 s1.heap.objs.size (.lst xs), I1.laid (t' := s1.toks) (fun b u e => Heap.get?_push_of_some _ e) (Nat.le_refl _) ?_, rfl, q _ hf⟩
  exact ⟨z, us, 0, r, Heap.get?_push_size _ rfl⟩
end

/-- a def's promise: the bound arguments in the parameters' order, the heap, the wanted end, the wanted exception -/
abbrev Sp := List V → Hp → VK → XK → Prop
/-- how an exception lies behind a call (file 08 gives it): the callers' frames, abstract heap and state ahead of the call, the wish, the exception, the state -/
abbrev CXT := List Env → Hp → Shared → XK → Value → Shared → Prop

/-- the state at a call -/
structure Env0 (P : Program) (w : World) (K : PySem.W.Frag) (mg : Str → Option Value) (base : Heap) (A : Around) (outer : List Env) (s : Shared) (H : Hp) : Prop where
  frames : A.frames = some outer
  mod : Mod K mg base
  bs : ∀ b o, base.get? b = some o → s.heap.get? b = some o ∧ H b = none
  bsz : base.objs.size ≤ s.heap.objs.size
  funs : s.heap.FunFrames base outer
  frf : ∀ b ∈ frs outer, H b = none
  hok : HOk P w H s.heap
  bare : AllBare s.gens
/-- a call's end -/
def CE (outer : List Env) (P : Program) (w : World) (H : Hp) (s : Shared) (Q : VK) (u : Value) (s' : Shared) : Prop :=
  ∃ v H', s'.os = s.os ∧ AllBare s'.gens ∧ Un (frs outer) [] H H' s.heap s'.heap ∧ HOk P w H' s'.heap ∧ RelV v u ∧ Q v H'
def CR (CX : CXT) (outer : List Env) (P : Program) (w : World) (H : Hp) (s : Shared) (Q : VK) (E : XK) (r : Result) (s' : Shared) : Prop :=
  match r with
  | .ok (.ret u) => CE outer P w H s Q u s'
  | .ok _ => False
  | .error e => CX outer H s E e s'
structure FnOk (P : Program) (w : World) (K : PySem.W.Frag) (mg : Str → Option Value) (base : Heap) (CX : CXT) (k : Nat) (f : Addr) (fd : FuncData) (ps : List Str) (sp : Sp) : Prop where
  len : ∀ vs H Q E, sp vs H Q E → vs.length = ps.length
  run : ∀ (A : Around) (outer : List Env) (s : Shared) (H : Hp) (args : Args) (us : List Value) (vs : List V) (Q : VK) (E : XK), Room k A → Env0 P w K mg base A outer s H → BindsTo s fd args (ps.zip us) → Vals vs us → sp vs H Q E →
    codeAny (model P w) A (.call (.ref f) args) (CR CX outer P w H s Q E) s
theorem Env0.make {P : Program} {w : World} {K : PySem.W.Frag} {mg : Str → Option Value} {base : Heap} {A : Around} {outer : List Env} {s : Shared} {H : Hp} (e : Env0 P w K mg base A outer s H) (C : Addr) (us : List Value) (kw : List (Str × Value)) :
    Env0 P w K mg base (A.under (.builtin "type.__call__" ⟨.ref C :: us, kw⟩)) outer s H := ⟨by first | exact e.frames | (simpa [Around.under, Code.envs, Code.isFrame, pushEnvs] using e.frames), e.mod, e.bs, e.bsz, e.funs, e.frf, e.hok, e.bare⟩
section
variable {X : Cx} {pins : List (Addr × Obj)} {σ : St} {H : Hp} {s s' : Shared}
/-- from a body: what a callee wants -/
theorem Inv.env0 (I : Inv X pins σ H s) : Env0 X.prog X.w X.K X.mg X.base X.A X.stack s H :=
  ⟨I.ok.frames, I.ok.mod, I.bs, Nat.le_trans I.ok.bsz I.sz, I.stack, I.stkFree, I.hok, I.bare⟩
/-- behind a call -/
theorem Inv.after {Q : VK} {u : Value} (I : Inv X pins σ H s) (h : CE X.stack X.prog X.w H s Q u s') : EP X pins σ Q u s' := by
  obtain ⟨v, H', os, bare, un, hok, r, q⟩ := h
  obtain ⟨hh, g, d, t, os'⟩ := s'
  obtain rfl : os' = s.os := os
  exact ⟨v, H', I.call (h' := hh) (g' := g) (d' := d) (t' := t) (ch := []) un hok bare (fun b z => absurd z (by simp)), r, q⟩
end

/-- f(..): the written arguments, then the defaults dvs; E: what is wanted of an exception -/
def tCall (sp : Sp) (dvs : List V) (E : XK) (t : TA) : TE := fun σ H Q => t σ H fun vs H1 => sp (vs ++ dvs) H1 Q E
/-- o.m(..) of an instance of the class at C -/
def tMeth (C : Addr) (m : Str) (sp : Sp) (dvs : List V) (E : XK) (ta : TE) (t : TA) : TE := fun σ H Q => ta σ H fun x H1 => ∃ a dx fs, x = .ref a ∧ H1 a = some (.ins C dx fs) ∧ fs.lookup m = none ∧
  t σ H1 fun vs H2 => sp (x :: (vs ++ dvs)) H2 Q E
/-- C(..): a new instance and its dict, then __init__ -/
def tMake (C : Addr) (sp : Sp) (dvs : List V) (E : XK) (t : TA) : TE := fun σ H Q => t σ H fun vs H1 => ∀ x dx, H1 x = none → H1 dx = none → dx ≠ x →
  sp (.ref x :: (vs ++ dvs)) (upd (upd H1 dx (.own x)) x (.ins C dx [])) (fun v H2 => v = .non ∧ Q (.ref x) H2) E

/-- how the parameters are bound: us the positional arguments, kw the keywords' values by name, ds the defaults that fill up -/
def Binds (K : PySem.W.Frag) (fd : FuncData) (ps : List Str) (ds : List Value) : Prop :=
  ∀ (s : Shared) (us : List Value), K.In s.heap → (us ++ ds).length = ps.length → BindsTo s fd ⟨us, []⟩ (ps.zip (us ++ ds))
/-- every parameter is given -/
theorem Binds.all {K : PySem.W.Frag} {fd : FuncData} {ps : List Str} (h : ∀ us : List Value, us.length = ps.length → bindArgs fd ⟨us, []⟩ = pure (ps.zip us)) : Binds K fd ps [] := fun s us _ hl => by
  rw [List.append_nil] at hl ⊢
  exact .of_eq (h us hl)

/-- an exception of a callee reaches what this body wants of exceptions -/
def Passes (CX : CXT) (X : Cx) (E : XK) : Prop := ∀ (pins : List (Addr × Obj)) (σ : St) (H : Hp) (s : Shared) (e : Value) (s' : Shared), Inv X pins σ H s → CX X.stack H s E e s' → X.xe e s'

section
variable {X : Cx} {CX : CXT} {k : Nat} {f C : Addr} {fd : FuncData} {ps : List Str} {sp : Sp} {dvs : List V} {ds : List Value} {E : XK} {x m : Str} {p pos apos : Pos} {e o : Expr} {es : List Expr} {ta : TE} {t : TA}

/-- the callee runs -/
theorem run_fn {pins : List (Addr × Obj)} {σ : St} {H : Hp} {s : Shared} {Q : VK} {us : List Value} {vs : List V} (F : FnOk X.prog X.w X.K X.mg X.base CX k f fd ps sp) (hr : Room k X.A) (hb : Binds X.K fd ps ds) (hd : Vals dvs ds) (hx : Passes CX X E)
    (I : Inv X pins σ H s) (r : Vals vs us) (h : sp (vs ++ dvs) H Q E) : wpAny (model X.prog X.w) X.A (call (.ref f) us) (EP X pins σ Q) X.xe s := by
  have r2 : Vals (vs ++ dvs) (us ++ ds) := r.append hd
  have hl : (us ++ ds).length = ps.length := by rw [← r2.length]; exact F.len _ _ _ _ h
  refine wpAny_call (codeAny_mono (F.run X.A X.stack s H ⟨us, []⟩ (us ++ ds) (vs ++ dvs) Q E hr I.env0 (hb s us I.kIn hl) r2 h) fun r s' hq => ?_)
  cases r with
  | error e => exact hx pins σ H s e s' I hq
  | ok fl =>
    cases fl with
    | ret u => exact I.after hq
    | next => exact False.elim hq
    | brk => exact False.elim hq
    | cont => exact False.elim hq

theorem pe_call (F : FnOk X.prog X.w X.K X.mg X.base CX k f fd ps sp) (hr : Room k X.A) (hg : Gl X x) (hm : X.mg x = some (.ref f)) (hk : PySem.W.keepIn X.K (.ref f) = true) (hb : Binds X.K fd ps ds) (hd : Vals dvs ds) (hx : Passes CX X E)
    (ha : PA X (e :: es) t) (hdb : (x == ("__debug__" : Str)) = false := by decide) (he : starEach (e :: es) X.env = (false, eval e X.env) :: starEach es X.env := by rfl) (hpl : (backTo pos (starEach es X.env)).any (·.1) = false := by rfl) :
    PE X (.Call (.Name x p) (e :: es) [] pos) (tCall sp dvs E t) := by
  intro pins s σ H Q I h
  refine wpAny_Call_Name_kw (ld_glob I hg hm ?_ hdb)
  refine PySem.W.callWith_K (h₀ := X.base) I.ok.mod.kin hk (thn (ha pos pins s σ H _ I h) fun us s1 ⟨vs, H1, I1, r, q⟩ => ⟨I1.kIn, ?_⟩) he hpl
  exact run_fn F hr hb hd hx I1 r q
/-- o.m(e, ..) -/
theorem pe_meth {pl : Sem Bool} (he : PE X o ta) (c : Cls X.K C) (hm : Meth X.K C m f) (F : FnOk X.prog X.w X.K X.mg X.base CX k f fd ps sp) (hr : Room k X.A) (hb : Binds X.K fd ps ds) (hd : Vals dvs ds) (hx : Passes CX X E) (ha : PA X (e :: es) t)
    (hst : starEach (e :: es) X.env = (false, eval e X.env) :: starEach es X.env := by rfl) (hpl : (backTo pos (starEach es X.env)).any (·.1) = false := by rfl)
    (ht : eval (.Call (.Attribute o m apos) (e :: es) [] pos) X.env = (do
      let ov ← eval o X.env
      standAt apos.atName
      let (f, first) ← holding [ov] (getMethod ov m pl)
      callWith pos f first (backTo pos (starEach (e :: es) X.env)) (backToKw pos (keywordEach [] X.env))) := by rfl) :
    PE X (.Call (.Attribute o m apos) (e :: es) [] pos) (tMeth C m sp dvs E ta t) := by
  intro pins s σ H Q I h
  refine PySem.W.methodCall_KW (pl := pl) (thn (he pins s σ H _ I h) fun u s1 ⟨x, H1, I1, rx, a, dx, fs, ex, ea, l, q⟩ => ?_) ht
  subst ex
  obtain rfl : u = Value.ref a := rx
  refine getmeth_ok I1 ea c hm l ?_
  refine PySem.W.callWith_K (first := [.ref a]) (h₀ := X.base) I.ok.mod.kin hm.kp (thn (ha pos pins s1 σ H1 _ I1 q) fun us s2 ⟨vs, H2, I2, r, q2⟩ => ⟨I2.kIn, ?_⟩) hst hpl
  exact run_fn (us := .ref a :: us) (vs := .ref a :: vs) F hr hb hd hx I2 (.cons rfl r) q2
/-- what a class must have to be made -/
structure Mk (K : PySem.W.Frag) (C f : Addr) : Prop where
  makes : PySem.W.makesIn K C = true
  init : PySem.W.findIn K (.ref C) "__init__" = some (some (.ref f))
  fn : PySem.W.isFn K (.ref f) = true
  kp : PySem.W.keepIn K (.ref C) = true

theorem run_make {pins : List (Addr × Obj)} {σ : St} {H : Hp} {s : Shared} {Q : VK} {us : List Value} {vs : List V} (M : Mk X.K C f) (F : FnOk X.prog X.w X.K X.mg X.base CX k f fd ps sp) (hr : Room (k + 1) X.A) (hb : Binds X.K fd ps ds) (hd : Vals dvs ds)
    (hx : Passes CX X E) (I : Inv X pins σ H s) (r : Vals vs us)
    (h : ∀ x dx, H x = none → H dx = none → dx ≠ x → sp (.ref x :: (vs ++ dvs)) (upd (upd H dx (.own x)) x (.ins C dx [])) (fun v H2 => v = .non ∧ Q (.ref x) H2) E) :
    wpAny (model X.prog X.w) X.A (call (.ref C) us) (EP X pins σ Q) X.xe s := by
  have hq := h (s.heap.objs.size + 1) s.heap.objs.size (I.hok.fresh (Nat.le_succ _)) (I.hok.fresh (Nat.le_refl _)) (Nat.ne_of_lt (Nat.lt_succ_self _))
  have I2 := Inv.made (C := C) I
  have r2 : Vals (V.ref (s.heap.objs.size + 1) :: (vs ++ dvs)) (Value.ref (s.heap.objs.size + 1) :: (us ++ ds)) := .cons rfl (r.append hd)
  have hl : (Value.ref (s.heap.objs.size + 1) :: us ++ ds).length = ps.length := by
    have e := r2.length
    rw [F.len _ _ _ _ hq] at e
    exact e.symm
  refine wpAny_call (make_map (f := f) I.kIn M.makes M.init (beq_iff_eq.mp M.fn) (codeAny_mono (F.run _ X.stack _ _ ⟨Value.ref (s.heap.objs.size + 1) :: us, []⟩ (Value.ref (s.heap.objs.size + 1) :: (us ++ ds)) _ _ E (hr.make C us [])
    (I2.env0.make C us []) (hb _ (Value.ref (s.heap.objs.size + 1) :: us) I2.kIn hl) r2 hq) fun r s' hq' => ?_))
  cases r with
  | error e => exact hx pins σ _ _ e s' I2 hq'
  | ok fl =>
    cases fl with
    | ret u =>
      obtain ⟨v, H', I3, rv, ev, q3⟩ := I2.after hq'
      subst ev
      exact ⟨rv, ⟨V.ref (s.heap.objs.size + 1), H', I3, rfl, q3⟩⟩
    | next => exact False.elim hq'
    | brk => exact False.elim hq'
    | cont => exact False.elim hq'
theorem pe_make (M : Mk X.K C f) (F : FnOk X.prog X.w X.K X.mg X.base CX k f fd ps sp) (hr : Room (k + 1) X.A) (hg : Gl X x) (hm : X.mg x = some (.ref C)) (hb : Binds X.K fd ps ds) (hd : Vals dvs ds) (hx : Passes CX X E)
    (ha : PA X (e :: es) t) (hdb : (x == ("__debug__" : Str)) = false := by decide) (he : starEach (e :: es) X.env = (false, eval e X.env) :: starEach es X.env := by rfl) (hpl : (backTo pos (starEach es X.env)).any (·.1) = false := by rfl) :
    PE X (.Call (.Name x p) (e :: es) [] pos) (tMake C sp dvs E t) := by
  intro pins s σ H Q I h
  refine wpAny_Call_Name_kw (ld_glob I hg hm ?_ hdb)
  refine PySem.W.callWith_K (h₀ := X.base) I.ok.mod.kin M.kp (thn (ha pos pins s σ H _ I h) fun us s1 ⟨vs, H1, I1, r, q⟩ => ⟨I1.kIn, ?_⟩) he hpl
  exact run_make M F hr hb hd hx I1 r q
end

section
variable {X : Cx} {CX : CXT} {k : Nat} {f C : Addr} {fd : FuncData} {ps ks : List Str} {sp : Sp} {E : XK} {x m : Str} {p pos apos kpos : Pos} {e o : Expr} {es : List Expr} {kws : List Keyword} {te ta : TE} {t tk : TA} {nm : Option Str}
variable {g : List Value → List Value → List Value} {gV : List V → List V → List V}
end

/-- names: the parameters first -/
structure FnScope (N P : List Str) (sc : Scope) : Prop where
  kind : sc.kind = .function
  co : sc.isCoroutine = false
  gen : sc.isGenerator = false
  nd : N.Nodup
  pre : N.take P.length = P
  par : ∀ x ∈ P, sc.names.lookup x = some .local ∨ sc.names.lookup x = some .cell
  nofree : ∀ y ∈ sc.names, y.2 ≠ .free

theorem bindL_out {kindOf : Str → Option NameKind} {x : Str} : ∀ {binds : List (Str × Value)} {m : Str → Option Value}, (∀ v, (x, v) ∉ binds) → bindL kindOf binds m x = m x
  | [], _, _ => rfl
  | (n, v) :: r, m, h => by
    unfold bindL
    rw [bindL_out fun w hw => h w (List.mem_cons_of_mem _ hw)]
    split
    · have : x ≠ n := by rintro rfl; exact h v List.mem_cons_self
      simp [this]
    · rfl
theorem bindC_out {kindOf : Str → Option NameKind} {x : Str} : ∀ {binds : List (Str × Value)} {m : Str → Option Value}, (∀ v, (x, v) ∉ binds) → bindC kindOf binds m x = m x
  | [], _, _ => rfl
  | (n, v) :: r, m, h => by
    unfold bindC
    rw [bindC_out fun w hw => h w (List.mem_cons_of_mem _ hw)]
    split
    · rfl
    · have : x ≠ n := by rintro rfl; exact h v List.mem_cons_self
      simp [this]
theorem bindL_get {kindOf : Str → Option NameKind} {x : Str} {v : Value} : ∀ {P : List Str} {vs : List Value} {i : Nat} {m : Str → Option Value}, P.Nodup → P[i]? = some x → vs[i]? = some v → kindOf x = some .local →
    bindL kindOf (P.zip vs) m x = some v
  | [], _, _, _, _, h, _, _ => by simp at h
  | _ :: _, [], _, _, _, _, h, _ => by simp at h
  | p :: P, w :: vs, 0, m, nd, h1, h2, hk => by
    simp at h1 h2; subst h1; subst h2
    show bindL kindOf ((p, w) :: P.zip vs) m p = _
    unfold bindL
    rw [bindL_out fun v hv => (List.nodup_cons.mp nd).1 (List.of_mem_zip hv).1, if_pos hk]
    simp
  | p :: P, w :: vs, i + 1, m, nd, h1, h2, hk => by
    show bindL kindOf ((p, w) :: P.zip vs) m x = _
    unfold bindL
    exact bindL_get (i := i) (List.nodup_cons.mp nd).2 (by simpa using h1) (by simpa using h2) hk
theorem bindC_get {kindOf : Str → Option NameKind} {x : Str} {v : Value} : ∀ {P : List Str} {vs : List Value} {i : Nat} {m : Str → Option Value}, P.Nodup → P[i]? = some x → vs[i]? = some v → kindOf x ≠ some .local →
    bindC kindOf (P.zip vs) m x = some v
  | [], _, _, _, _, h, _, _ => by simp at h
  | _ :: _, [], _, _, _, _, h, _ => by simp at h
  | p :: P, w :: vs, 0, m, nd, h1, h2, hk => by
    simp at h1 h2; subst h1; subst h2
    show bindC kindOf ((p, w) :: P.zip vs) m p = _
    unfold bindC
    rw [bindC_out fun v hv => (List.nodup_cons.mp nd).1 (List.of_mem_zip hv).1, if_neg hk]
    simp
  | p :: P, w :: vs, i + 1, m, nd, h1, h2, hk => by
    show bindC kindOf ((p, w) :: P.zip vs) m x = _
    unfold bindC
    exact bindC_get (i := i) (List.nodup_cons.mp nd).2 (by simpa using h1) (by simpa using h2) hk

/-- the names' values at the entry -/
def start (N : List Str) (vs : List V) : St := vs.map some ++ List.replicate (N.length - vs.length) none

/-- the context of a def's body, at its entry; an exception leaves the frame, then lies as CX says -/
def cxOf (CX : CXT) (P : Program) (w : World) (K : PySem.W.Frag) (mg : Str → Option Value) (base : Heap) (N : List Str) (qual : Str) (scope : Scope) (f : Addr) (cd : Value) (A : Around) (outer : List Env) (s : Shared) (H : Hp) (E : XK) : Cx where
  prog := P
  w := w
  K := K
  mg := mg
  base := base
  A := A.deeper (envOfC qual scope s.heap.objs.size f cd)
  N := N
  s₀ := s
  H₀ := H
  env := envOfC qual scope s.heap.objs.size f cd
  outer := outer
  stack := envOfC qual scope s.heap.objs.size f cd :: outer
  ex := []
  calm := true
  fn := fun _ => true
  pn := []
  xe := fun e s' => wpAny (model P w) (A.deeper (envOfC qual scope s.heap.objs.size f cd)) (leaving (envOfC qual scope s.heap.objs.size f cd) e) (fun _ s'' => CX outer H s E e s'') (fun e' s'' => CX outer H s E e' s'') s'

theorem cell_has {sc : Scope} {n : Nat} {x : Str} (h : sc.names.lookup x = some .cell) : ∃ c, (cellsFrom n sc.names []).lookup x = some c := by
  have q := PySem.W.cellsFrom_some sc.names n [] (.inl h)
  exact Option.isSome_iff_exists.mp q

theorem inv_start {CX : CXT} {P : Program} {w : World} {K : PySem.W.Frag} {mg : Str → Option Value} {base : Heap} {N ps : List Str} {qual : Str} {scope : Scope} {f : Addr} {cd : Value} {A : Around} {outer : List Env} {s s1 : Shared} {H : Hp} {E : XK} {us : List Value} {vs : List V}
    (S : FnScope N ps scope) (hd : A.handled = none) (e0 : Env0 P w K mg base A outer s H) (hl : vs.length = ps.length) (r : Vals vs us)
    (x : InCallC s s.heap.objs.size (bindL (envOfC qual scope s.heap.objs.size f cd).kindOf (ps.zip us) fun _ => none) (cellsFrom (s.heap.objs.size + 1) scope.names []) (bindC (envOfC qual scope s.heap.objs.size f cd).kindOf (ps.zip us) fun _ => none) s1) :
    Inv (cxOf CX P w K mg base N qual scope f cd A outer s H E) [] (start N vs) H s1 := by
  have hpl : ps.length ≤ N.length := by have := congrArg List.length S.pre; rw [List.length_take] at this; (first | lia | omega)
  obtain ⟨h1, tk, rfl, hk⟩ := x.done
  have noA : ∀ b : Addr, b ∉ (cxOf CX P w K mg base N qual scope f cd A outer s H E).ex := fun b z => absurd (show b ∈ ([] : List Addr) from z) (by simp)
  refine ⟨⟨e0.mod, S.kind, rfl, rfl, Nat.le_refl _, fun y z c h1 h2 => ?_, fun y hy => ?_, fun y c _ h => ?_, fun _ => hd, Around.frames_deeper e0.frames, .inr ⟨rfl, rfl⟩, fun b z => absurd z (noA b), e0.bs, e0.bsz, fun b _ _ => noA b, fun b z => absurd z (noA b), e0.funs, e0.frf⟩,
    rfl, e0.bare, Un.kept hk, ⟨_, x.toInCall.ns, fun i y v h1 h2 h3 => ?_⟩, fun y c h => ⟨_, x.cell y c h⟩, e0.hok.fresh (Nat.le_refl _), fun y c h => ?_, fun p hp => absurd (show p ∈ ([] : List (Addr × Obj)) from hp) (by simp), e0.hok.kept hk, ?_⟩
  · exact name_of_addr x.apart (PySem.mem_of_lookup h1) (PySem.mem_of_lookup h2)
  · have hy : scope.names.lookup y = some .cell ∨ scope.names.lookup y = some .free := hy
    rcases hy with hy | hy
    · exact cell_has hy
    · exact absurd rfl (S.nofree _ (PySem.mem_of_lookup hy))
  · exact Nat.le_of_lt (x.above y c (PySem.mem_of_lookup h))
  · have hi : i < vs.length := by
      unfold start at h2
      by_cases hi : i < vs.length
      · exact hi
      · rw [List.getElem?_append_right (by simpa using hi)] at h2
        rw [List.getElem?_replicate] at h2
        split at h2 <;> cases h2
    have ha : vs[i]? = some v := by
      unfold start at h2
      rw [List.getElem?_append_left (by simpa using hi), List.getElem?_map] at h2
      cases e : vs[i]? with
      | none => rw [e] at h2; cases h2
      | some a => rw [e] at h2; cases h2; rfl
    obtain ⟨u, hu, rv⟩ := r.get ha
    have hp : ps[i]? = some y := by
      rw [← S.pre, List.getElem?_take_of_lt (by (first | lia | omega))]; exact h1
    have ndP : ps.Nodup := by rw [← S.pre]; exact S.nd.sublist (List.take_sublist _ _)
    refine ⟨u, rv, ?_⟩
    rcases S.par y (List.mem_of_getElem? hp) with k | k
    · exact .inl ⟨k, bindL_get ndP hp hu k⟩
    · obtain ⟨c, e⟩ := cell_has (n := s.heap.objs.size + 1) k
      refine .inr ⟨.inl k, c, e, ?_⟩
      have q := x.cell y c e
      rw [bindC_get ndP hp hu (by show scope.names.lookup y ≠ _; rw [k]; decide)] at q
      exact q
  · exact e0.hok.fresh (Nat.le_of_lt (x.above y c (PySem.mem_of_lookup h)))
  · unfold start
    show _ = N.length
    rw [List.length_append, List.length_map, List.length_replicate]
    (first | lia | omega)

/-- THE RULE: a def (or a method) of the text, by its body. The body's reading t is chosen for each entry; it is run at the parameters' values -/
theorem fn_of {CX : CXT} {P : Program} {w : World} {K : PySem.W.Frag} {mg : Str → Option Value} {base : Heap} {k : Nat} {f : Addr} {name qual : Str} {params : Arguments} {body : List Stmt} {scope : Scope} {dV kV doc pm cdv ct oc : Value} {an od : Option Addr}
    {osl : Array (Option Value)} {N ps : List Str} {sp : Sp} (lk : K.lookup f = some ⟨oc, od, .func (PySem.W.fnOf name qual params body scope dV kV doc pm an cdv ct), osl⟩) (hcd : PySem.W.codeIn K cdv qual = true) (S : FnScope N ps scope)
    (len : ∀ vs H Q E, sp vs H Q E → vs.length = ps.length)
    (hbody : ∀ (A : Around) (outer : List Env) (s : Shared) (H : Hp) (vs : List V) (Q : VK) (E : XK), Room k (A.deeper (envOfC qual scope s.heap.objs.size f cdv)) → sp vs H Q E →
      ∃ t, PSs (cxOf CX P w K mg base N qual scope f cdv A outer s H E) body t ∧ t { nx := fun _ H' => Q .non H', rt := Q } (start N vs) H) :
    FnOk P w K mg base CX (k + 1) f (PySem.W.fnOf name qual params body scope dV kV doc pm an cdv ct) ps sp := by
  refine ⟨len, fun A outer s H args us vs Q E hr e0 hb r hsp => ?_⟩
  have hl := len _ _ _ _ hsp
  have KX : K.In s.heap := e0.mod.kin.keeps fun b o e => (e0.bs b o e).1
  have lim : s.heap.NoLimit := e0.mod.nolimit.keeps fun b o e => (e0.bs b o e).1
  have hkind : ∀ y ∈ ps.zip us, scope.names.lookup y.1 = some .local ∨ (scope.names.lookup y.1 = some .cell ∧ ((cellsFrom (s.heap.objs.size + 1) scope.names []).lookup y.1).isSome = true) := fun ⟨n, v⟩ hy => by
    rcases S.par n (List.of_mem_zip hy).1 with q | q
    · exact .inl q
    · exact .inr ⟨q, PySem.W.cellsFrom_some _ _ _ (.inl q)⟩
  refine codeAny_call_function hr.depth (KX _ _ lk) rfl S.co S.gen rfl (PySem.W.codeRec_of KX hcd) (hb _ _ _ _ ?_)
  refine wpAny_newFunctionEnv_cells S.kind hkind fun env he s1 x => ?_
  subst he
  refine ⟨lim.keeps x.toInCall.keep, codeAny_func ?_⟩
  obtain ⟨t, ht, hq⟩ := hbody A outer s H vs Q E (hr.deeper _) hsp
  have I : Inv (cxOf CX P w K mg base N qual scope f cdv A outer s H E) [] (start N vs) H s1 := inv_start S hr.hd e0 hl r x
  refine wpAny_mono (ht [] s1 (start N vs) H _ I hq) (fun fl s' hs => ?_) fun e s' hs => hs
  have fin : ∀ {σ' : St} {H' : Hp} {v : V} {u : Value}, Inv (cxOf CX P w K mg base N qual scope f cdv A outer s H E) [] σ' H' s' → RelV v u → Q v H' → CE outer P w H s Q u s' :=
    fun {σ' H' v u} J rv q => ⟨v, H', J.os, J.bare, J.base, J.hok, rv, q⟩
  cases fl with
  | ret u =>
    obtain ⟨v, σ', H', J, rv, q⟩ := hs
    exact fin J rv q
  | next =>
    obtain ⟨σ', H', J, q⟩ := hs
    exact fin (v := V.non) (u := Value.none) J rfl q
  | brk =>
    obtain ⟨_, _, _, q⟩ := hs
    exact False.elim q
  | cont =>
    obtain ⟨_, _, _, q⟩ := hs
    exact False.elim q
end L2

namespace L2
open PySem PySem.Spec PyProof.Rows
section
variable {X : Cx} {x : Str} {p pos : Pos} {e : Expr} {es : List Expr} {t : TA} {id T : String} {r : List V → Hp → VK → Prop}

def tCB (r : List V → Hp → VK → Prop) (t : TA) : TE := fun σ H Q => t σ H fun vs H1 => r vs H1 Q
/-- f(e, ..), f a built-in function -/
theorem pe_callB (hc : CallR X (.builtin id) r) (hg : Gl X x) (hm : X.mg x = none) (hv : bootBuiltins x = some (.builtin id)) (ha : PA X (e :: es) t) (hn : x ≠ "__name__" := by decide) (hdb : (x == ("__debug__" : Str)) = false := by decide)
    (he : starEach (e :: es) X.env = (false, eval e X.env) :: starEach es X.env := by rfl) (hpl : (backTo pos (starEach es X.env)).any (·.1) = false := by rfl) : PE X (.Call (.Name x p) (e :: es) [] pos) (tCB r t) := by
  intro pins s σ H Q I h
  refine wpAny_Call_Name_kw (ld_blt I hg hm hv ?_ hn hdb)
  exact PyProof.Rows.callWith_builtin1 (thn (ha pos pins s σ H _ I h) fun us s1 ⟨vs, H1, I1, r1, q1⟩ => hc pins s1 σ H1 vs us Q I1 r1 q1) he hpl
/-- T(e, ..), T a built-in type -/
theorem pe_callTy (hc : CallR X (.type T) r) (hg : Gl X x) (hm : X.mg x = none) (hv : bootBuiltins x = some (.type T)) (ha : PA X (e :: es) t) (hn : x ≠ "__name__" := by decide) (hdb : (x == ("__debug__" : Str)) = false := by decide)
    (he : starEach (e :: es) X.env = (false, eval e X.env) :: starEach es X.env := by rfl) (hpl : (backTo pos (starEach es X.env)).any (·.1) = false := by rfl) : PE X (.Call (.Name x p) (e :: es) [] pos) (tCB r t) := by
  intro pins s σ H Q I h
  refine wpAny_Call_Name_kw (ld_blt I hg hm hv ?_ hn hdb)
  exact PyProof.Rows.callWith_type1 (thn (ha pos pins s σ H _ I h) fun us s1 ⟨vs, H1, I1, r1, q1⟩ => hc pins s1 σ H1 vs us Q I1 r1 q1) he hpl
end
end L2

namespace HT
open PySem PyProof.Rows

section
open PySem.SeqAt
open PySem.AutoSeq1 (wpAny_loadPart')
open PySem.MeetsSeq PySem.MeetsSeq2 PySem.MeetsSeq3

end

section
variable {prog : Program} {w : World} {A : Around} {E : Value → Shared → Prop} {s : Shared}

/-- a slice's bound as a place among n (d where it is left out) -/
def sIx (n d : Nat) : Option Int → Nat
  | none => d
  | some v => if v < 0 then (v + (n : Int)).toNat else min v.toNat n
theorem sIx_none (n d : Nat) : sIx n d none = d := rfl
theorem sIx_nat (n d k : Nat) : sIx n d (some (k : Int)) = min k n := by
  show (if (k : Int) < 0 then ((k : Int) + (n : Int)).toNat else min (k : Int).toNat n) = min k n
  rw [if_neg (by (first | lia | omega)), Int.toNat_natCast]
end
end HT

namespace L2
open PySem PySem.Spec PyProof.Rows

abbrev TO := St → Hp → (Option Int → Hp → Prop) → Prop
/-- a slice's part (left out, or an int) -/
def PO (X : Cx) (e : Option Expr) (t : TO) : Prop :=
  ∀ (pins : List (Addr × Obj)) (s : Shared) (σ : St) (H : Hp) (Q : Option Int → Hp → Prop), Inv X pins σ H s → t σ H Q →
    wpAny (model X.prog X.w) X.A (evalPart e X.env) (fun u s' => ∃ o H', Inv X pins σ H' s' ∧ IsPart u o ∧ Q o H') X.xe s
def tNoPart : TO := fun _ H Q => Q none H
def tPart (t : TE) : TO := fun σ H Q => t σ H fun x H1 => ∃ i, x = .int i ∧ Q (some i) H1

theorem intsAre_of {ns : List Int} : ∀ {us : List Value}, Vals (ns.map V.int) us → IntsAre us ns := by
  induction ns with
  | nil => intro us r; rw [List.map_nil] at r; cases r; exact .nil
  | cons n ns ih =>
    intro us r
    rw [List.map_cons] at r
    cases r with
    | cons r1 r2 =>
      obtain ⟨t, e⟩ := r1
      subst e
      exact .cons n t (ih r2)

section
variable {X : Cx} {e : Expr} {te : TE} {lo hi : Option Expr} {tl th : TO} {pos p2 : Pos}

theorem po_none : PO X none tNoPart := by
  intro pins s σ H Q I h
  rw [evalPart_none]
  exact wpAny_pure ⟨none, H, I, .none, h⟩
theorem po_some (h : PE X e te) : PO X (some e) (tPart te) := by
  intro pins s σ H Q I hw
  rw [evalPart_some]
  refine thn (h pins s σ H _ I hw) fun u s1 ⟨x, H1, I1, r1, q1⟩ => ?_
  obtain ⟨i, rfl, q⟩ := q1
  obtain ⟨t, rfl⟩ := r1
  exact ⟨some i, H1, I1, .int i t, q⟩

/-- what a slice of a value is, by values: the slice object stands at sl -/
def SlR (X : Cx) (r : V → Option Int → Option Int → Hp → VK → Prop) : Prop :=
  ∀ (pins : List (Addr × Obj)) (s : Shared) (σ : St) (H : Hp) (x : V) (v vl vu : Value) (lo hi : Option Int) (sl : Addr) (Q : VK), Inv X pins σ H s → RelV x v → s.heap.IsSliceOf sl vl vu .none → IsPart vl lo → IsPart vu hi → r x lo hi H Q →
    ∃ T id, typeLookup (.type T) "__getitem__" = pure (some (.builtin id)) ∧ s.TypeIs v T ∧ wpAny (model X.prog X.w) X.A (getItem v (.ref sl)) (EP X pins σ Q) X.xe s
def tSl (r : V → Option Int → Option Int → Hp → VK → Prop) (te : TE) (tl th : TO) : TE := fun σ H Q => te σ H fun x H1 => tl σ H1 fun l H2 => th σ H2 fun u H3 => r x l u H3 Q
/-- a[lo:hi], any a -/
theorem pe_slice {r : V → Option Int → Option Int → Hp → VK → Prop} (hr : SlR X r) (he : PE X e te) (hl : PO X lo tl) (hu : PO X hi th) : PE X (.Subscript e (.Slice lo hi none p2) pos) (tSl r te tl th) := by
  intro pins s σ H Q I h
  refine Subscript_ (thn (he pins s σ H _ I h) fun v s1 ⟨x, H1, I1, r1, q1⟩ => ?_)
  refine wpAny_Slice (thn (hl pins s1 σ H1 _ I1 q1) fun vl s2 ⟨l, H2, I2, pl, q2⟩ => thn (hu pins s2 σ H2 _ I2 q2) fun vu s3 ⟨u, H3, I3, pu, q3⟩ => ?_)
  rw [evalPart_none]
  refine wpAny_pure ?_
  have I4 : Inv X pins σ H3 { s3 with heap := s3.heap.push { cls := .type "slice", data := .fields #[vl, vu, .none] } } := I3.kept (t' := s3.toks) fun b ob q => Heap.get?_push_of_some _ q
  obtain ⟨T, id, hT, ht, hg⟩ := hr pins { s3 with heap := s3.heap.push { cls := .type "slice", data := .fields #[vl, vu, .none] } } σ H3 x v vl vu l u s3.heap.objs.size Q I4 r1 (Heap.IsSliceOf.new ..) pl pu q3
  show wpAny (model X.prog X.w) X.A (subscriptTail e (.Slice lo hi none p2) v (.ref s3.heap.objs.size)) (EP X pins σ Q) X.xe { s3 with heap := s3.heap.push { cls := .type "slice", data := .fields #[vl, vu, .none] } }
  exact tail_any (ops := [.ref s3.heap.objs.size, v]) ht hT hg (by with_unfolding_all rfl)

/-- the items of xs[lo:hi] -/
def cutV (xs : List V) (lo hi : Option Int) : List V := (xs.drop (HT.sIx xs.length 0 lo)).take (HT.sIx xs.length xs.length hi - HT.sIx xs.length 0 lo)
theorem cutV_length (xs : List V) (lo hi : Option Int) : (cutV xs lo hi).length ≤ xs.length := by
  unfold cutV
  rw [List.length_take, List.length_drop]
  (first | lia | omega)
end
end L2

namespace L2
open PySem PySem.Spec PyProof.Rows

/-- the place that an index of any sign means -/
def ixN (n : Nat) (i : Int) : Option Nat := if 0 ≤ i then (if i < n then some i.toNat else none) else if -(n : Int) ≤ i then some (i + n).toNat else none
def atI {α : Type} (xs : List α) (i : Int) : Option α := (ixN xs.length i).bind fun j => xs[j]?
theorem ixN_seq {n : Nat} {i : Int} {j : Nat} (h : ixN n i = some j) : seqIndex? i n = some j ∧ j < n ∧ -(n : Int) ≤ i ∧ i < n := by
  unfold ixN at h
  by_cases h0 : 0 ≤ i
  · rw [if_pos h0] at h
    by_cases h1 : i < n
    · rw [if_pos h1] at h
      have e : i.toNat = j := Option.some.inj h
      exact ⟨by rw [seqIndex_of h0 h1, e], by (first | lia | omega), by (first | lia | omega), h1⟩
    · rw [if_neg h1] at h; cases h
  · rw [if_neg h0] at h
    by_cases h1 : -(n : Int) ≤ i
    · rw [if_pos h1] at h
      have e : (i + n).toNat = j := Option.some.inj h
      exact ⟨by rw [seqIndex_neg (by (first | lia | omega)) h1, e], by (first | lia | omega), h1, by (first | lia | omega)⟩
    · rw [if_neg h1] at h; cases h
theorem atI_get {α : Type} {xs : List α} {i : Int} {v : α} (h : atI xs i = some v) : ∃ j, seqIndex? i xs.length = some j ∧ xs[j]? = some v ∧ j < xs.length ∧ -(xs.length : Int) ≤ i ∧ i < xs.length := by
  unfold atI at h
  cases e : ixN xs.length i with
  | none => rw [e] at h; cases h
  | some j =>
    rw [e] at h
    obtain ⟨h1, h2, h3, h4⟩ := ixN_seq e
    exact ⟨j, h1, h, h2, h3, h4⟩
theorem atI_nat {α : Type} {xs : List α} {j : Nat} {v : α} (h : xs[j]? = some v) : atI xs (j : Int) = some v := by
  have hj : j < xs.length := (List.getElem?_eq_some_iff.mp h).1
  have e : ixN xs.length (j : Int) = some j := by
    unfold ixN
    rw [if_pos (by (first | lia | omega)), if_pos (by (first | lia | omega))]; simp
  unfold atI; rw [e]; exact h
theorem atI_last {α : Type} (xs : List α) (v : α) : atI (xs ++ [v]) (-1) = some v := by
  have hl : (xs ++ [v]).length = xs.length + 1 := by simp
  have e : ixN (xs ++ [v]).length (-1) = some xs.length := by
    unfold ixN
    rw [hl, if_neg (by decide), if_pos (by (first | lia | omega))]
    congr 1
    (first | lia | omega)
  unfold atI
  rw [e]
  show (xs ++ [v])[xs.length]? = some v
  simp

/-- what stands as an index of a plain subscript -/
def PlainIx (b : Expr) : Prop := ∀ o i, subscripted b false o i = operate [o, i] (getItem o i)
/-- a subscript by values -/
def IxR (X : Cx) (r : R2) : Prop :=
  ∀ (value slice : Expr) (pins : List (Addr × Obj)) (s : Shared) (σ : St) (H : Hp) (x y : V) (v u : Value) (Q : VK), Inv X pins σ H s → RelV x v → RelV y u → r x y H Q →
    subscripted slice false v u = operate [v, u] (getItem v u) → wpAny (model X.prog X.w) X.A (subscriptTail value slice v u) (EP X pins σ Q) X.xe s
/-- a call of a builtin's method by values: the receiver, the arguments -/
def MtR (X : Cx) (id : String) (r : V → List V → Hp → VK → Prop) : Prop :=
  ∀ (pins : List (Addr × Obj)) (s : Shared) (σ : St) (H : Hp) (x : V) (xs : List V) (v : Value) (us : List Value) (Q : VK), Inv X pins σ H s → RelV x v → Vals xs us → r x xs H Q →
    wpAny (model X.prog X.w) X.A (call (.builtin id) (v :: us)) (EP X pins σ Q) X.xe s
section
variable {X : Cx} {a b : Expr} {ta tb : TE} {pos : Pos}
/-- a[b] -/
theorem pe_ix {r : R2} (hr : IxR X r) (ha : PE X a ta) (hb : PE X b tb) (hs : PlainIx b) : PE X (.Subscript a b pos) (tOp r ta tb) := by
  intro pins s σ H Q I h
  exact Subscript_ (binT ha hb I h fun v u s2 x y H2 I2 rx ry q => hr a b pins s2 σ H2 x y v u Q I2 rx ry q (hs _ _))

def rIxL (K : PySem.W.Frag) : R2 := fun x y H Q => ∃ p xs i v, x = .ref p ∧ y = .int i ∧ SqL K H p xs ∧ atI xs i = some v ∧ Q v H
def rIxS : R2 := fun x y H Q => ∃ z i c, x = .str z ∧ y = .int i ∧ z.length ≤ sizeLine ∧ atI z.cps.toList i = some c ∧ Q (.str ⟨#[c]⟩) H
theorem ix_list : IxR X (rIxL X.K) := by
  intro value slice pins s σ H x y v u Q I rx ry h hs
  obtain ⟨p, xs, i, z, rfl, rfl, hq, he, q⟩ := h
  cases rx
  obtain ⟨t, rfl⟩ := ry
  obtain ⟨its, r, pl, hz⟩ := I.list hq
  obtain ⟨j, h1, h2, h3, h4, h5⟩ := atI_get he
  obtain ⟨w, ew, rw'⟩ := r.get h2
  have hl := r.length
  have hn := line63
  have fin : EP X pins σ Q w s := ⟨z, H, I, rw', q⟩
  by_cases h0 : 0 ≤ i
  · have hj : i.toNat = j := by
      rw [seqIndex_of h0 h5] at h1
      exact Option.some.inj h1
    exact item_listR pl.isList h0 (by (first | lia | omega)) (by rw [hj]; simpa using ew) fin hs
  · have hj : (i + (its.toArray.size : Int)).toNat = j := by
      rw [seqIndex_neg (by (first | lia | omega)) h4] at h1
      rw [List.size_toArray, ← hl]
      exact Option.some.inj h1
    exact subscriptTail_builtinR (x := w) pl.isList.typeIs slot_list_getitem.lookup
      (wpAny_getItem_list_neg (Q := fun r s' => r = w ∧ EP X pins σ Q r s') pl.isList (by (first | lia | omega)) (by rw [List.size_toArray] <;> (first | lia | omega)) (by (first | lia | omega)) (by rw [hj]; simpa using ew) ⟨rfl, fin⟩) hs
theorem ix_str : IxR X rIxS := by
  intro value slice pins s σ H x y v u Q I rx ry h hs
  obtain ⟨z, i, c, rfl, rfl, hz, he, q⟩ := h
  obtain ⟨t, rfl⟩ := rx
  obtain ⟨t', rfl⟩ := ry
  obtain ⟨j, h1, h2, h3, h4, h5⟩ := atI_get he
  have hl : z.cps.toList.length = z.length := by simp [Str.length]
  rw [hl] at h1 h4 h5
  have hn := line63
  exact tail_any (typeIs_str s z t) slot_str_getitem.lookup (getItem_str (c := c) (by
    have e1 : decide (i < -(2 ^ 63 : Int)) = false := decide_eq_false (by (first | lia | omega))
    have e2 : decide (i ≥ 2 ^ 63) = false := decide_eq_false (by (first | lia | omega))
    rw [e1, e2, Bool.or_false]) (by rw [h1]; simpa using h2) ⟨.str ⟨#[c]⟩, H, I.tok _, ⟨_, rfl⟩, q⟩) hs
/-- the list's object behind a store -/
theorem mapSeq_set (its : List Value) (n j : Nat) (u : Value) : Obj.mapSeq (·.setIfInBounds j u) { cls := .type "list", data := .seq its.toArray n } = { cls := .type "list", data := .seq (its.set j u).toArray n } := by
  simp [Obj.mapSeq]
theorem Inv.lst {pins : List (Addr × Obj)} {σ : St} {H : Hp} {s : Shared} {p : Addr} {xs : List V} (I : Inv X pins σ H s) (h : H p = some (.lst xs)) :
    ∃ (its : List Value) (n : Nat), Vals xs its ∧ s.heap.get? p = some { cls := .type "list", data := .seq its.toArray n } ∧ xs.length ≤ sizeLine := by
  obtain ⟨z, its, n, r, e⟩ := I.hok p _ h
  exact ⟨its, n, r, e, z⟩
/-- the list at p is written by an update of its object -/
theorem Inv.lstUpd {pins : List (Addr × Obj)} {σ : St} {H : Hp} {s : Shared} {p : Addr} {xs ys : List V} {its its' : List Value} {n n' : Nat} {f : Obj → Obj} (I : Inv X pins σ H s) (h : H p = some (.lst xs))
    (ho : s.heap.get? p = some { cls := .type "list", data := .seq its.toArray n }) (hf : f { cls := .type "list", data := .seq its.toArray n } = { cls := .type "list", data := .seq its'.toArray n' }) (r : Vals ys its') (hz : ys.length ≤ sizeLine) (t : Nat) :
    Inv X pins σ (upd H p (.lst ys)) { s with heap := s.heap.update p f, toks := t } := by
  have e : (s.heap.update p f).get? p = some { cls := .type "list", data := .seq its'.toArray n' } := by
    rw [Heap.get?_update_self f ho (by rw [hf] <;> rfl), hf]
  refine I.write (x := p) (e := p) (by rw [h]; trivial) (.inl rfl) (fun b u hb q => (Heap.get?_update_other _ _ (Ne.symm hb)).trans q) ⟨_, e⟩ ?_
  exact ⟨hz, its', n', r, e⟩
def rSetL : V → V → V → Hp → (Hp → Prop) → Prop := fun o i v H Q => ∃ p xs k j, o = .ref p ∧ i = .int k ∧ H p = some (.lst xs) ∧ ixN xs.length k = some j ∧ Q (upd H p (.lst (xs.set j v)))
theorem set_list : PSet X rSetL := by
  intro pins s σ H o i v ov iv u Q I ro ri rv h
  obtain ⟨p, xs, k, j, rfl, rfl, hp, hj, q⟩ := h
  cases ro
  obtain ⟨t, rfl⟩ := ri
  obtain ⟨its, n, r, ho, hz⟩ := I.lst hp
  obtain ⟨h1, h2, h3, h4⟩ := ixN_seq hj
  have hl := r.length
  have hn := line63
  have I' : Inv X pins σ (upd H p (.lst (xs.set j v))) { s with heap := s.heap.update p (Obj.mapSeq (·.setIfInBounds j u)) } :=
    I.lstUpd hp ho (mapSeq_set its n j u) (r.set rv j) (by rw [List.length_set]; exact hz) s.toks
  by_cases h0 : 0 ≤ k
  · have hk : k.toNat = j := by
      rw [seqIndex_of h0 h4] at h1
      exact Option.some.inj h1
    exact PySem.W.ki_setAt ho h0 (by (first | lia | omega)) (by rw [List.size_toArray, ← hl]; exact h4) (by rw [hk]; exact ⟨_, I', q⟩)
  · have hk : (k + (its.toArray.size : Int)).toNat = j := by
      rw [seqIndex_neg (by (first | lia | omega)) h3] at h1
      rw [List.size_toArray, ← hl]
      exact Option.some.inj h1
    exact PySem.W.ki_setBack ho (by (first | lia | omega)) (by rw [List.size_toArray, ← hl]; exact h3) (by (first | lia | omega)) (by rw [hk]; exact ⟨_, I', q⟩)

theorem slice_bounds (lo hi : Option Int) (n : Nat) : (sliceBounds lo hi none n).1 = ((HT.sIx n 0 lo : Nat) : Int) ∧ (sliceBounds lo hi none n).2.1 = ((HT.sIx n n hi : Nat) : Int) ∧ (sliceBounds lo hi none n).2.2 = 1 := by
  refine ⟨?_, ?_, rfl⟩
  · cases lo with
    | none => simp [sliceBounds, HT.sIx]
    | some i =>
      simp only [sliceBounds, HT.sIx, Option.getD_none, show (1 : Int) > 0 by decide, if_true]
      by_cases h : i < 0
      · simp only [h, if_true] <;> (first | lia | omega)
      · simp only [h, if_false] <;> (first | lia | omega)
  · cases hi with
    | none => simp [sliceBounds, HT.sIx]
    | some i =>
      simp only [sliceBounds, HT.sIx, Option.getD_none, show (1 : Int) > 0 by decide, if_true]
      by_cases h : i < 0
      · simp only [h, if_true] <;> (first | lia | omega)
      · simp only [h, if_false] <;> (first | lia | omega)
theorem slicePick_cut (its : List Value) (lo hi : Option Int) : slicePick its.toArray lo hi none = ((its.drop (HT.sIx its.length 0 lo)).take (HT.sIx its.length its.length hi - HT.sIx its.length 0 lo)).toArray := by
  obtain ⟨h1, h2, h3⟩ := slice_bounds lo hi its.toArray.size
  unfold slicePick
  rw [h1, h2, h3]
  simp only [sliceRange_one, pick_run, List.size_toArray] <;> rfl
/-- xs[lo:hi] of a list: a new list -/
def rSlL (K : PySem.W.Frag) : V → Option Int → Option Int → Hp → VK → Prop := fun x lo hi H Q => ∃ a xs, x = .ref a ∧ SqL K H a xs ∧ ∀ p, H p = none → Q (.ref p) (upd H p (.lst (cutV xs lo hi)))
theorem sl_list : SlR X (rSlL X.K) := by
  intro pins s σ H x v vl vu lo hi sl Q I rx hs pl pu h
  obtain ⟨a, xs, rfl, hx, q⟩ := h
  cases rx
  obtain ⟨its, r, ht, hz⟩ := I.list hx
  have hlen := r.length
  refine ⟨"list", _, slot_list_getitem.lookup, ht.isList.typeIs, ?_⟩
  refine wpAny_getItem_list_slice ht.isList hs pl pu .none (by simp) ?_ (by rw [List.size_toArray] <;> (first | lia | omega))
  rw [slicePick_cut, ← hlen]
  refine ⟨.ref s.heap.objs.size, _, I.laid (t' := s.toks) (o := .lst (cutV xs lo hi)) (fun b ob q => Heap.get?_push_of_some _ q) (Nat.le_refl _) ?_, rfl, q _ (I.hok.fresh (Nat.le_refl _))⟩
  exact ⟨Nat.le_trans (cutV_length xs lo hi) hz, _, 0, (r.drop (HT.sIx xs.length 0 lo)).take (HT.sIx xs.length xs.length hi - HT.sIx xs.length 0 lo), Heap.get?_push_size _ rfl⟩

def flatV : V → Bool
  | .non => true
  | .bl _ => true
  | .int _ => true
  | .str _ => true
  | _ => false
/-- == of flat values -/
def eqV : V → V → Bool
  | .non, .non => true
  | .bl a, .bl b => a == b
  | .bl a, .int b => (if a then 1 else 0) == b
  | .int a, .bl b => a == (if b then 1 else 0)
  | .int a, .int b => a == b
  | .str a, .str b => a == b
  | _, _ => false
theorem eqAt_V {A : Around} {s : Shared} {y x : V} {u v : Value} (ry : RelV y u) (rx : RelV x v) (fy : flatV y = true) (fx : flatV x = true) : SeqAt.EqAt A s u v (eqV y x) := by
  cases y with
  | non =>
    cases ry
    cases x with
    | non => cases rx; exact SeqAt.EqAt.same _
    | bl b => cases rx; exact SeqAt.EqAt.none_bool b
    | int b => obtain ⟨t, rfl⟩ := rx; exact SeqAt.EqAt.none_int b t
    | str b => obtain ⟨t, rfl⟩ := rx; exact SeqAt.EqAt.none_str b t
    | _ => exact absurd (show false = true from fx) Bool.false_ne_true
  | bl a =>
    cases ry
    cases x with
    | non => cases rx; exact SeqAt.EqAt.bool_none a
    | bl b => cases rx; exact SeqAt.EqAt.bool_bool a b
    | int b => obtain ⟨t, rfl⟩ := rx; exact SeqAt.EqAt.bool_int a b t
    | str b => obtain ⟨t, rfl⟩ := rx; exact SeqAt.EqAt.bool_str a b t
    | _ => exact absurd (show false = true from fx) Bool.false_ne_true
  | int a =>
    obtain ⟨t', rfl⟩ := ry
    cases x with
    | non => cases rx; exact SeqAt.EqAt.int_none a t'
    | bl b => cases rx; exact SeqAt.EqAt.int_bool a t' b
    | int b => obtain ⟨t, rfl⟩ := rx; exact SeqAt.EqAt.int_int a t' b t
    | str b => obtain ⟨t, rfl⟩ := rx; exact SeqAt.EqAt.int_str a t' b t
    | _ => exact absurd (show false = true from fx) Bool.false_ne_true
  | str a =>
    obtain ⟨t', rfl⟩ := ry
    cases x with
    | non => cases rx; exact SeqAt.EqAt.str_none a t'
    | bl b => cases rx; exact SeqAt.EqAt.str_bool a t' b
    | int b => obtain ⟨t, rfl⟩ := rx; exact SeqAt.EqAt.str_int a t' b t
    | str b => obtain ⟨t, rfl⟩ := rx; exact SeqAt.EqAt.str_str a t' b t
    | _ => exact absurd (show false = true from fx) Bool.false_ne_true
  | _ => exact absurd (show false = true from fy) Bool.false_ne_true
theorem call_len_seq : CallR X (.builtin "len") (fun xs H Q => ∃ p ys, xs = [.ref p] ∧ (SqL X.K H p ys ∨ SqT X.K H p ys) ∧ Q (.int ys.length) H) := by
  intro pins s σ H xs us Q I r h
  obtain ⟨p, ys, rfl, hq, q⟩ := h
  obtain ⟨u, rfl, rx⟩ := vals1 r
  cases rx
  have hn := line63
  rcases hq with hq | hq
  · obtain ⟨its, r', pl, hz⟩ := I.list hq
    have hlen := r'.length
    exact Calls.call_len_list pl.isList (by simp only [List.size_toArray] <;> (first | lia | omega)) ⟨.int ys.length, H, I.tok _, ⟨s.toks + 1, by rw [List.size_toArray, hlen]⟩, q⟩
  · obtain ⟨its, r', pl, hz⟩ := I.tuple hq
    have hlen := r'.length
    exact len_tuple pl (by simp only [List.size_toArray] <;> (first | lia | omega)) ⟨.int ys.length, H, I.tok _, ⟨s.toks + 1, by rw [List.size_toArray, hlen]⟩, q⟩
theorem call_len_str : CallR X (.builtin "len") (fun xs H Q => ∃ z, xs = [.str z] ∧ z.length ≤ sizeLine ∧ Q (.int z.length) H) := by
  intro pins s σ H xs us Q I r h
  obtain ⟨z, rfl, hz, q⟩ := h
  obtain ⟨u, rfl, t, rfl⟩ := vals1 r
  have hn := line63
  exact len_str (by (first | lia | omega)) ⟨.int z.length, H, I.tok _, ⟨_, rfl⟩, q⟩
theorem call_list_of : CallR X (.type "list") (fun xs H Q => ∃ p ys, xs = [.ref p] ∧ (SqL X.K H p ys ∨ SqT X.K H p ys) ∧ ∀ l, H l = none → Q (.ref l) (upd H l (.lst ys))) := by
  intro pins s σ H xs us Q I r h
  obtain ⟨p, ys, rfl, hq, q⟩ := h
  obtain ⟨u, rfl, rx⟩ := vals1 r
  cases rx
  have fin : ∀ (its : List Value), Vals ys its → ys.length ≤ sizeLine → ∀ (h' : Heap) (c' : Nat), (∀ b o', s.heap.get? b = some o' → h'.get? b = some o') →
      h'.get? s.heap.objs.size = some { cls := .type "list", dict := none, data := .seq its.toArray c', slots := #[] } → EP X pins σ Q (.ref s.heap.objs.size) { s with heap := h' } := fun its r' hz h' c' kp e =>
    ⟨.ref s.heap.objs.size, _, I.laid (t' := s.toks) kp (Nat.le_refl _) (show ObjOk X.prog X.w _ h' _ (.lst ys) from ⟨hz, its, c', r', e⟩), rfl, q _ (I.hok.fresh (Nat.le_refl _))⟩
  rcases hq with hq | hq
  · obtain ⟨its, r', pl, hz⟩ := I.list hq
    have hlen := r'.length
    obtain ⟨o, ho, hc, n, hd⟩ := pl.isList
    exact call_list_seq p (.inl rfl) ho hc hd (fun h' c' kp e => fin its r' hz h' c' kp e) (by simp only [List.size_toArray] <;> (first | lia | omega))
  · obtain ⟨its, r', pl, hz⟩ := I.tuple hq
    have hlen := r'.length
    obtain ⟨o, ho, hc, n, hd⟩ := pl
    exact call_list_seq p (.inr rfl) ho hc hd (fun h' c' kp e => fin its r' hz h' c' kp e) (by simp only [List.size_toArray] <;> (first | lia | omega))
/-- the value is of that builtin type -/
def tyV (K : PySem.W.Frag) (T : String) (x : V) (H : Hp) : Prop := match x with
  | .str _ => T = "str"
  | .int _ => T = "int"
  | .ref p => (T = "list" ∧ ∃ xs, SqL K H p xs) ∨ (T = "tuple" ∧ ∃ o, K.lookup p = some o ∧ o.cls = .type "tuple" ∧ o.dict = none) ∨
      (T = "dict" ∧ ((∃ kvs, H p = some (.dK kvs)) ∨ ∃ kvs, H p = some (.dT kvs))) ∨ (T = "set" ∧ ∃ S n, H p = some (.set S n))
  | _ => False
theorem tyV_is {pins : List (Addr × Obj)} {σ : St} {H : Hp} {s : Shared} {T : String} {x : V} {v : Value} (I : Inv X pins σ H s) (r : RelV x v) (ty : tyV X.K T x H) :
    s.TypeIs v T ∧ ∀ a, v = .ref a → ∃ ob, s.heap.get? a = some ob ∧ ob.dict = none := by
  cases x with
  | str z =>
    obtain ⟨t, rfl⟩ := r
    cases (show T = "str" from ty)
    exact ⟨typeIs_str s z t, fun _ e => nomatch e⟩
  | int i =>
    obtain ⟨t, rfl⟩ := r
    cases (show T = "int" from ty)
    exact ⟨typeIs_int s i t, fun _ e => nomatch e⟩
  | ref p =>
    cases r
    rcases ty with ⟨rfl, xs, hq⟩ | ⟨rfl, o, hk, hc, hd⟩ | ⟨rfl, hk⟩ | ⟨rfl, S, n, hk⟩
    · obtain ⟨its, _, pl, _⟩ := I.list hq
      refine ⟨pl.isList.typeIs, fun a e => ?_⟩
      cases e
      obtain ⟨o, n, e, c, hd, _⟩ := pl
      exact ⟨o, e, hd⟩
    · refine ⟨⟨o, I.kIn p o hk, hc⟩, fun a e => ?_⟩
      cases e
      exact ⟨o, I.kIn _ o hk, hd⟩
    · have z : ∃ o, s.heap.get? p = some o ∧ o.ExactDict := by
        rcases hk with ⟨kvs, hk⟩ | ⟨kvs, hk⟩
        · obtain ⟨_, _, _, _, o, _, _, e, ex, _⟩ := I.hok p _ hk
          exact ⟨o, e, ex⟩
        · obtain ⟨_, _, _, _, o, _, _, e, ex, _⟩ := I.hok p _ hk
          exact ⟨o, e, ex⟩
      obtain ⟨o, e, ex⟩ := z
      refine ⟨⟨o, e, ex.1⟩, fun a e2 => ?_⟩
      cases e2
      exact ⟨o, e, ex.2.1⟩
    · obtain ⟨o, _, _, _, e, ex, _⟩ := I.hok p _ hk
      refine ⟨⟨o, e, ex.1⟩, fun a e2 => ?_⟩
      cases e2
      exact ⟨o, e, ex.2.1⟩
  | _ => exact False.elim ty
def tBM (K : PySem.W.Frag) (T : String) (r : V → List V → Hp → VK → Prop) (to : TE) (t : TA) : TE := fun σ H Q => to σ H fun x H1 => tyV K T x H1 ∧ t σ H1 fun xs H2 => r x xs H2 Q
variable {o e : Expr} {es : List Expr} {to : TE} {t : TA} {name : Str} {apos cpos : Pos} {T id : String} {r : V → List V → Hp → VK → Prop}
theorem pe_bm (pa : PlainAttrs T) (slot : Slot T name id) (hty : typeOf (.builtin id) = pure (.type "method_descriptor")) (hm : MtR X id r) (ho : PE X o to) (ha : PA X (e :: es) t)
    (hbase : attributeBase o name X.env (eval o X.env) = eval o X.env := by rfl)
    (hfew : ((backTo cpos (starEach (e :: es) X.env)).all (fun x => !x.1) && (backToKw cpos (keywordEach [] X.env)).all (fun x => x.1.isSome)
      && decide ((e :: es).length + ([] : List Keyword).length + (if ([] : List Keyword).isEmpty then 0 else 1) < 30)) = true := by rfl)
    (hline : (apos.endLine == cpos.line) = true := by rfl) (hs : starEach (e :: es) X.env = (false, eval e X.env) :: starEach es X.env := by rfl) (hplain : (backTo cpos (starEach es X.env)).any (·.1) = false := by rfl) :
    PE X (.Call (.Attribute o name apos) (e :: es) [] cpos) (tBM X.K T r to t) := by
  intro pins s σ H Q I h
  refine wpAny_Call_method_late hbase hfew hline rfl (thn (ho pins s σ H _ I h) fun v s1 ⟨x, H1, I1, r1, ty, q1⟩ => ?_)
  obtain ⟨h1, h2⟩ := tyV_is I1 r1 ty
  refine ⟨T, id, pa, slot, hty, h1, h2, ?_⟩
  have hA := ha cpos pins s1 σ H1 _ I1 q1
  rw [hs] at hA ⊢
  refine Calls.callWith_builtin (by show (false || (backTo cpos (starEach es X.env)).any (·.1)) = false; rw [hplain] <;> rfl) (Calls.evalArgs_plain ?_)
  exact thn hA fun us s2 ⟨vs, H2, I2, r2, q2⟩ => hm pins s2 σ H2 x vs v us Q I2 r1 r2 q2
/- xs.append(e), list.index on a module's tuple .. are MtR facts of 06m -/
end
end L2

namespace L2
open PySem PySem.Spec PyProof.Rows

def MtM (X : Cx) (id : String) (r : V → List V → Hp → VK → Prop) : Prop :=
  ∀ (pins : List (Addr × Obj)) (s : Shared) (σ : St) (H : Hp) (x : V) (xs : List V) (v : Value) (us : List Value) (Q : VK), Inv X pins σ H s → RelV x v → Vals xs us → r x xs H Q →
    wpAny (model X.prog X.w) X.A (call (.builtin id) (v :: us)) (EP X pins σ Q) X.xe s

theorem Vals.one : ∀ {x : V} {us : List Value}, Vals [x] us → ∃ u, us = [u] ∧ RelV x u
  | _, _, .cons r .nil => ⟨_, rfl, r⟩
theorem Vals.two : ∀ {x y : V} {us : List Value}, Vals [x, y] us → ∃ u v, us = [u, v] ∧ RelV x u ∧ RelV y v
  | _, _, _, .cons r (.cons q .nil) => ⟨_, _, rfl, r, q⟩
theorem Vals.rep {xs : List V} {us : List Value} (h : Vals xs us) : ∀ k : Nat, Vals (List.replicate k xs).flatten (List.replicate k us).flatten
  | 0 => .nil
  | k + 1 => by
    rw [List.replicate_succ, List.replicate_succ, List.flatten_cons, List.flatten_cons]
    exact Vals.append h (Vals.rep h k)
theorem foldl_rep (its : List Value) : ∀ (k : Nat) (acc : List Value),
    List.foldl (fun x1 x2 => x1 ++ x2) acc.toArray (List.replicate k its.toArray) = (acc ++ (List.replicate k its).flatten).toArray
  | 0, acc => by simp
  | k + 1, acc => by
    have e : acc.toArray ++ its.toArray = (acc ++ its).toArray := by simp
    have e2 : (acc ++ its) ++ (List.replicate k its).flatten = acc ++ (List.replicate (k + 1) its).flatten := by
      rw [List.replicate_succ, List.flatten_cons, List.append_assoc]
    rw [← e2, ← foldl_rep its k (acc ++ its), ← e, List.replicate_succ, List.foldl_cons]

section
variable {X : Cx} {pins : List (Addr × Obj)} {σ : St} {H : Hp} {s : Shared} {l b : Addr} {xs ys zs : List V}

theorem Inv.lset {its its' : List Value} {n : Nat} {f : Array Value → Array Value} {t' : Nat} (I : Inv X pins σ H s) (hH : H l = some (.lst xs))
    (e : s.heap.get? l = some { cls := .type "list", data := .seq its.toArray n }) (hf : f its.toArray = its'.toArray) (hv : Vals ys its') (hz : ys.length ≤ sizeLine) :
    Inv X pins σ (upd H l (.lst ys)) { s with heap := s.heap.update l (Obj.mapSeq f), toks := t' } := by
  have q := PySem.IsL.update e f
  rw [hf] at q
  refine I.write (x := l) (e := l) (by rw [hH]; exact trivial) (.inl rfl) (fun b' u hb hu => (Heap.get?_update_other s.heap (Obj.mapSeq f) (Ne.symm hb)).trans hu) ⟨_, q⟩ ?_
  exact ⟨hz, its', _, hv, q⟩
theorem Inv.lnew {its : List Value} {t' : Nat} (I : Inv X pins σ H s) (hv : Vals ys its) (hz : ys.length ≤ sizeLine) :
    Inv X pins σ (upd H s.heap.objs.size (.lst ys)) { s with heap := s.heap.push { cls := .type "list", data := .seq its.toArray }, toks := t' } :=
  I.laid (fun _ _ q => Heap.get?_push_of_some _ q) (Nat.le_refl _) ⟨hz, its, 0, hv, Heap.get?_push_size _ rfl⟩
theorem Inv.fresh (I : Inv X pins σ H s) : H s.heap.objs.size = none := I.hok.fresh (Nat.le_refl _)
theorem Inv.lstM (I : Inv X pins σ H s) (hH : H l = some (.lst xs)) : xs.length ≤ sizeLine ∧ ∃ (its : List Value) (n : Nat), Vals xs its ∧ xs.length = its.length ∧ s.heap.get? l = some { cls := .type "list", data := .seq its.toArray n } := by
  obtain ⟨z, its, n, r, e⟩ := I.hok l _ hH
  exact ⟨z, its, n, r, r.length, e⟩

theorem notLongL {n : Nat} (h : n ≤ sizeLine) : Builtin.List.listTooLong n = false := by
  unfold Builtin.List.listTooLong
  exact decide_eq_false (by (first | lia | omega))
end

section
variable {X : Cx}

def rAppend : V → List V → Hp → VK → Prop := fun x vs H Q => ∃ l xs y, x = .ref l ∧ vs = [y] ∧ H l = some (.lst xs) ∧ xs.length < sizeLine ∧ Q .non (upd H l (.lst (xs ++ [y])))
theorem mt_append : MtM X "list.append" rAppend := by
  intro pins s σ H x vs v us Q I rx rv h
  obtain ⟨l, xs, y, rfl, rfl, hH, hz, q⟩ := h
  cases rx
  obtain ⟨u, rfl, ru⟩ := rv.one
  obtain ⟨z, its, n, r, hl, e⟩ := I.lstM hH
  refine call_meets F.slot_list_append ⟨_, e, rfl⟩ F.entry_list_append (F.args_list_append_2 _ _) (PySem.list_append l its.toArray n u (by rw [List.size_toArray]; (first | lia | omega))) ⟨e, ?_⟩
  refine ⟨.non, _, I.lset (its' := its ++ [u]) hH e (by simp) (r.append (.cons ru .nil)) ?_, rfl, q⟩
  rw [List.length_append, List.length_singleton]
  (first | lia | omega)

def rCat : R2 := fun x y H Q => ∃ l b xs zs, x = .ref l ∧ y = .ref b ∧ H l = some (.lst xs) ∧ H b = some (.lst zs) ∧ xs.length + zs.length ≤ sizeLine ∧ ∀ p, H p = none → Q (.ref p) (upd H p (.lst (xs ++ zs)))
theorem op_cat : OpR X (binaryOp .Add) rCat := by
  intro pins s σ H x y v u Q I rx ry h
  obtain ⟨l, b, xs, zs, rfl, rfl, hH, hB, hz, q⟩ := h
  cases rx
  cases ry
  obtain ⟨z, its, n, r, hl, e⟩ := I.lstM hH
  obtain ⟨z2, its2, n2, r2, hl2, e2⟩ := I.lstM hB
  refine PySem.P.add_list e e2 ?_ (by rw [List.size_toArray, List.size_toArray]; (first | lia | omega))
  have ea : its.toArray ++ its2.toArray = (its ++ its2).toArray := by simp
  rw [ea]
  exact ⟨.ref _, _, I.lnew (t' := s.toks) (r.append r2) (by rw [List.length_append]; (first | lia | omega)), rfl, q _ I.fresh⟩
/-- a list times an int (a negative one is nothing) -/
def rRep : R2 := fun x y H Q => ∃ l k xs, x = .ref l ∧ y = .int k ∧ H l = some (.lst xs) ∧ -(2 ^ 63) ≤ k ∧ k < 2 ^ 63 ∧ xs.length * k.toNat ≤ sizeLine ∧
  ∀ p, H p = none → Q (.ref p) (upd H p (.lst (List.replicate k.toNat xs).flatten))
theorem len_rep {α : Type} (xs : List α) (k : Nat) : (List.replicate k xs).flatten.length = k * xs.length := by
  induction k with
  | zero => simp
  | succ k ih => rw [List.replicate_succ, List.flatten_cons, List.length_append, ih, Nat.succ_mul, Nat.add_comm]
theorem op_rep : OpR X (binaryOp .Mult) rRep := by
  intro pins s σ H x y v u Q I rx ry h
  obtain ⟨l, k, xs, rfl, rfl, hH, h1, h2, hz, q⟩ := h
  cases rx
  obtain ⟨t, rfl⟩ := ry
  obtain ⟨z, its, n, r, hl, e⟩ := I.lstM hH
  have hlen : its.toArray.size * k.toNat ≤ sizeLine := by rw [List.size_toArray, ← hl]; exact hz
  have hcap : ¬ its.toArray.size * k.toNat > (2 ^ 63 - 1) / 8 := by
    have : (sizeLine : Nat) ≤ (2 ^ 63 - 1) / 8 := by decide
    (first | lia | omega)
  have hfit : ¬ (!Builtin.List.listFitsIndex k) = true := by
    rw [fitsIndex_both h1 h2]
    exact Bool.false_ne_true
  have hlong : ¬ Builtin.List.listTooLong (its.toArray.size * k.toNat) = true := by
    rw [notLongL hlen]
    exact Bool.false_ne_true
  have hnew : List.foldl (fun x1 x2 => x1 ++ x2) #[] (List.replicate (if its.toArray.isEmpty = true then 0 else k.toNat) its.toArray) = (List.replicate k.toNat its).flatten.toArray := by
    have f0 : ∀ m : Nat, List.foldl (fun x1 x2 => x1 ++ x2) #[] (List.replicate m its.toArray) = (List.replicate m its).flatten.toArray := fun m => by
      have := foldl_rep its m []
      rw [List.nil_append] at this
      exact this
    rw [f0]
    cases its with
    | nil => simp
    | cons a r' => rw [if_neg (by simp)]
  refine wpAny_binaryOp_repeat_ref (T := "list") (U := "int") (by decide) ⟨_, e, rfl⟩ (fun s' => typeIs_int s' k t) noFill_list_mul F.fills_int_mul F.slot_int_rmul repeat_list F.slot_int_index.lookup
    (call_meets F.slot_int_rmul (typeIs_int s k t) F.entry_int_rmul (F.args_int_rmul_2 _ _) (int___rmul___int_list k t l its.toArray n)
      ⟨e, rfl, ⟨_, e, rfl⟩, call_meets F.slot_list_mul ⟨_, e, rfl⟩ F.entry_list_mul (F.args_list_mul_2 _ _) (AutoListH.list___mul___list_int_3 l its.toArray n k t hfit hcap hlong) ⟨e, ?_⟩⟩)
  rw [hnew]
  exact ⟨.ref _, _, I.lnew (t' := s.toks) (r.rep k.toNat) (by rw [len_rep, Nat.mul_comm]; exact hz), rfl, q _ I.fresh⟩

end

section
variable {prog : Program} {w : World} {A : Around} {E : Value → Shared → Prop} {s : Shared}
end

section
variable {X : Cx}
end
end L2

namespace Att
open PySem PySem.W PySem.Calls PyProof.Rows

theorem ints_of_wellAll {P : Params} {h : Heap} : ∀ (ns : List Int) (vs : List Value), WellAll P h vs (ns.map WData.int) → IntsAre vs ns := by
  intro ns
  induction ns with
  | nil =>
    intro vs w
    rw [List.map_nil] at w
    cases w
    exact .nil
  | cons n ns ih =>
    intro vs w
    rw [List.map_cons] at w
    cases w with
    | cons a b =>
      cases a
      exact .cons _ _ (ih _ b)

theorem script_of {l : OpenLaw} {n : Nat} (hn : l.most = some n) {P : Params} {h : Heap} {args : List WData} {vals : List Value}
    (hpre : l.row.toRowW.claim.pre args = true) (hwl : WellAll P h vals args) :
    ∃ a vs ns, vals = [Value.ref a] ∧ args = [WData.list (ns.map WData.int)] ∧ h.get? a = some { cls := .type "list", data := .seq vs.toArray } ∧ IntsAre vs ns ∧ ns.length ≤ n := by
  have hsh : WShape.hasAll [] args [.list .int] = true := (pre_splitW hpre).1
  have hc : l.pre.holds [] { args := args } = true := (pre_splitW hpre).2
  obtain ⟨d, r, rfl, h1, h2⟩ := hasAllW_cons hsh
  obtain rfl := hasAllW_nil h2
  obtain ⟨xs, rfl, h3⟩ := hasW_list h1
  obtain ⟨ns, rfl⟩ := items_int h3
  have hlen : ns.length ≤ n := by
    unfold OpenLaw.pre at hc
    have h4 : (WTm.not (.lt (.lit (.int (n : Int))) (.len (.arg 0)))).holds [] { args := [.list (ns.map .int)] } = true := by
      have h4 := (holds_andW hc).1
      rw [hn] at h4
      exact h4
    have h5 := condW_of h4 (w_not (w_lt w_lit (w_len_list (w_arg rfl))))
    rw [List.length_map] at h5
    refine Nat.le_of_not_lt fun q => ?_
    have q' : (n : Int) < ((ns.length : Nat) : Int) := by (first | lia | omega)
    first
      | (rw [decide_eq_true q'] at h5; exact absurd h5 (by decide))
      | (simp at h5; (first | lia | omega))
  cases hwl with
  | cons w1 w2 =>
    cases w2
    cases w1 with
    | list ho hall => exact ⟨_, _, ns, rfl, rfl, ho, ints_of_wellAll ns _ hall, hlen⟩

theorem post_true (l : OpenLaw) (args : List WData) : l.row.toRowW.claim.post args (.bool true) args = true :=
  postW_of (r := l.row.toRowW) (X := (true == true))
    (show WShape.has [] (.bool true) .bool = true by first | rfl | decide | simp [WShape.has, WShape.arms, WShape.armsAll])
    (show (WTm.eq .res (.lit (.bool true))).value [] { args := args, res := some (.bool true), after := args } = some (.bool (true == true)) from w_eq_bool (w_res rfl) w_lit) rfl

/-- the same from a codeAny of the CALL (for a layer whose function contracts speak of calls) -/
theorem attach_call {l : OpenLaw} {n : Nat} {q : Program} {loose : List Str} {XP : (Str → Option Value) → Heap → Prop} {YP : World → Heap → Prop} {d : DefRec}
    (hn : l.most = some n) (hdf : d.params.defaults = [])
    (call : ∀ (w : World) (s₀ s₁ : Shared) (mg mb : Str → Option Value) (fa : Addr) (o : Obj) (pm cd doc : Value) (a : Addr) (vs : List Value) (ns : List Int),
      Ground q loose [] XP w s₀ mg mb s₁.heap → YP w s₁.heap →
      s₁.heap.get? fa = some o → o.data = .func (docDef d.name d.params d.body d.scope pm cd doc) → s₁.heap.CodeRec cd d.name → mg d.name = some (.ref fa) →
      s₁.heap.get? a = some { cls := .type "list", data := .seq vs.toArray } → IntsAre vs ns → ns.length ≤ n → s₁.gens = #[] →
      codeAny (model l.prog w) callerA (.call (.ref fa) ⟨[.ref a], []⟩) (fun r s' => r = .ok (.ret (.bool true)) ∧ OldK s₁.heap s'.heap ∧ s'.os = s₁.os ∧ AllBare s'.gens) s₁) :
    WalkO q loose XP YP l.row.toRowW d [] (fun f vs => PySem.call f vs) := by
  intro w s₀ s₁ mg mb G Y fa o pm cd doc dV kV ho hd hcd hD hmg hg args vals as hpre hlay hrd hwl hlo
  obtain rfl : dV = .none := Dflts.none hD hdf
  obtain rfl : kV = .none := Dflts.noKw hD
  obtain ⟨a, vs, ns, rfl, rfl, hobj, hints, hlen⟩ := script_of hn hpre hwl
  refine enter_call (codeAny_mono (call w s₀ s₁ mg mb fa o pm cd doc a vs ns G Y ho (fd_plain hd) hcd hmg hobj hints hlen hg) fun r s' hq => ?_)
  obtain ⟨rfl, h2, h3, h4⟩ := hq
  exact ⟨.inl ⟨.bool true, .bool true, [], rfl, fun _ => rfl, .bool true, post_true l _, fun _ => ⟨List.Pairwise.nil, fun _ hm => (nomatch hm)⟩⟩, h2, h3, h4⟩

section
variable {prog : Program} {w : World} {A : Around} {E : Value → Shared → Prop} {s : Shared} {K : Frag}

end
end Att

namespace L2
open PySem PySem.Spec PyProof.Rows

theorem vals_ints : ∀ {vs : List Value} {ns : List Int}, IntsAre vs ns → Vals (ns.map V.int) vs
  | _, _, .nil => .nil
  | _, _, .cons n t h => .cons ⟨t, rfl⟩ (vals_ints h)

/-- nothing is tracked but the script, known to the object (or it is an object of the module) -/
def Only (H : Hp) : Prop := ∀ b, H b = none ∨ ∃ o xs, H b = some (.frz o (.lst xs))

/-- THE HEAD: the law's promise, at the heap behind the top. F, the promise of the law's def, may use that base is part of the heap (so K.In base, base.Ns mainGlobals mg stand in Mod) -/
theorem law_call {P : Program} {w : World} {K : PySem.W.Frag} {mg mb : Str → Option Value} {CX : CXT} {k : Nat} {fa a : Addr} {fd : FuncData} {x : Str} {sp : Sp} {s₁ : Shared} {vs : List Value} {ns : List Int}
    (KX : K.In s₁.heap) (hns : s₁.heap.Ns mainGlobals mg) (hb : s₁.heap.Ns builtinsNs mb) (hbb : ∀ x : Str, x ≠ "__name__" → mb x = bootBuiltins x) (hlim : s₁.heap.NoLimit) (hg : s₁.gens = #[])
    (ha : s₁.heap.get? a = some { cls := .type "list", data := .seq vs.toArray }) (hi : IntsAre vs ns) (hl : ns.length ≤ sizeLine) (hr : Room k callerA)
    (F : ∀ base : Heap, K.In base → base.Ns mainGlobals mg → FnOk P w K mg base CX k fa fd [x] sp) (hbind : ∀ (s : Shared) (u : Value), BindsTo s fd ⟨[u], []⟩ [(x, u)])
    (hsp : ∀ H : Hp, Only H → SqL K H a (ns.map V.int) → sp [.ref a] H (fun v _ => v = .bl true) fun _ _ _ => False)
    (hCX : ∀ H e s', CX [] H s₁ (fun _ _ _ => False) e s' → False) :
    codeAny (model P w) callerA (.call (.ref fa) ⟨[.ref a], []⟩) (fun r s' => r = .ok (.ret (.bool true)) ∧ OldK s₁.heap s'.heap ∧ s'.os = s₁.os ∧ AllBare s'.gens) s₁ := by
  have rv := vals_ints hi
  have lenV := hi.length
  -- from an abstract heap in which nothing but the script may be tracked
  have core : ∀ H : Hp, Only H → SqL K H a (ns.map V.int) → HOk P w H s₁.heap → (∀ b, H b ≠ none → b = a) → (H a ≠ none → K.lookup a = none) →
      codeAny (model P w) callerA (.call (.ref fa) ⟨[.ref a], []⟩) (fun r s' => r = .ok (.ret (.bool true)) ∧ OldK s₁.heap s'.heap ∧ s'.os = s₁.os ∧ AllBare s'.gens) s₁ := by
    intro H hO hS hok hA hK
    have base_of : ∀ {b : Addr} {o : Obj}, s₁.heap.get? b = some o → H b = none → (hidT s₁.heap H).get? b = some o := fun e n => hidT_get e n
    have noA : ∀ {b : Addr} {o : Obj} {es : Array DictEntry} {ep : Nat}, s₁.heap.get? b = some o → o.data = .dict es ep → H b = none := fun {b o es ep} e d => by
      cases q : H b with
      | none => rfl
      | some u =>
        have e' : b = a := hA b (by rw [q]; simp)
        subst e'
        rw [ha] at e; cases e
        have d' : Data.seq vs.toArray _ = Data.dict es ep := d
        cases d'
    have nsK : ∀ {b : Addr} {m : Str → Option Value}, s₁.heap.Ns b m → (hidT s₁.heap H).Ns b m := fun {b m} ⟨o, es, ep, e, d, r⟩ => ⟨o, es, ep, base_of e (noA e d), d, r⟩
    have hKb : K.In (hidT s₁.heap H) := fun b o e => base_of (KX b o e) (by
      cases q : H b with
      | none => rfl
      | some u =>
        have e' : b = a := hA b (by rw [q]; simp)
        subst e'
        rw [hK (by rw [q]; simp)] at e; cases e)
    have hM : Mod K mg (hidT s₁.heap H) := ⟨hKb, nsK hns, ⟨mb, nsK hb, hbb⟩, let ⟨mc, h1, h2⟩ := hlim; ⟨mc, nsK h1, h2⟩⟩
    have e0 : Env0 P w K mg (hidT s₁.heap H) callerA [] s₁ H := ⟨rfl, hM, fun b o e => of_hidT e, Nat.le_of_eq (hidT_size _ _), trivial, fun b hb => absurd (show b ∈ ([] : List Addr) from hb) (by simp), hok, .of_eq hg⟩
    refine codeAny_mono ((F _ hKb (nsK hns)).run callerA [] s₁ H ⟨[.ref a], []⟩ [.ref a] [.ref a] _ _ hr e0 (hbind s₁ (.ref a)) (.cons rfl .nil) (hsp H hO hS)) fun r s' h => ?_
    cases r with
    | error e => exact (hCX H e s' h).elim
    | ok fl =>
      cases fl with
      | next => exact False.elim h
      | brk => exact False.elim h
      | cont => exact False.elim h
      | ret u =>
        obtain ⟨v, H', os, bare, un, hok', r', q⟩ := h
        have q' : v = .bl true := q
        subst q'
        obtain rfl : u = Value.bool true := r'
        refine ⟨rfl, OldK.of_keep fun b o e => ?_, os, bare⟩
        cases q : H b with
        | none => exact un.keep b o e q (by intro z; exact absurd (show b ∈ ([] : List Addr) from z) (by simp)) (by simp)
        | some u =>
          rcases hO b with z | ⟨ob, xs, z⟩
          · rw [q] at z; cases z
          · have z2 := un.frzs b ob _ z
            obtain ⟨e1, _⟩ := hok b _ z
            obtain ⟨e2, _⟩ := hok' b _ z2
            rw [e] at e1; cases e1
            exact e2
  cases hk : K.lookup a with
  | some o =>
    -- the script is one of the module's own objects
    have e := KX a o hk
    rw [ha] at e
    cases e
    refine core (fun _ => none) (fun _ => .inl rfl) (.inr ⟨_, vs.toArray, _, hk, rfl, rfl, rfl, by rw [List.size_toArray, lenV]; exact hl, by simpa using rv⟩) (fun b u z => by have z' : (none : Option HO) = some u := z; cases z') (fun b z => absurd rfl z) fun z => absurd rfl z
  | none =>
    refine core (fun b => if b = a then some (.frz { cls := .type "list", data := .seq vs.toArray } (.lst (ns.map V.int))) else none) (fun b => ?_) (.inl (.inr ⟨{ cls := .type "list", data := .seq vs.toArray }, if_pos rfl⟩)) (fun b u z => ?_) (fun b z => ?_) fun _ => hk
    · by_cases hb : b = a
      · exact .inr ⟨_, _, if_pos hb⟩
      · exact .inl (if_neg hb)
    · by_cases hb : b = a
      · have z' := (if_pos hb).symm.trans z
        cases z'
        subst hb
        exact ⟨ha, by rw [List.length_map]; exact hl, vs, _, rv, ha⟩
      · have z' := (if_neg hb).symm.trans z
        cases z'
    · by_cases hb : b = a
      · exact hb
      · exact absurd (if_neg hb) z
end L2

namespace L2
open PySem PySem.Spec PyProof.Rows

/-- the goal that k_head leaves (case hc), from the law's promise. F gives the function object fd (K's own) once, then the promise over every base -/
theorem walk_of {l : PySem.W.OpenLaw} {n k : Nat} {q : Program} {loose : List Str} {XP : (Str → Option Value) → Heap → Prop} {YP : World → Heap → Prop} {d : DefRec} {K : Params → PySem.W.Frag} {CX : World → CXT} {sp : World → Sp} {x : Str}
    (hn : l.most = some n) (hn2 : n ≤ sizeLine) (hdf : d.params.defaults = []) (hr : Room k callerA)
    (hY : ∀ (w : World) (h : Heap), YP w h → (K w.params).In h)
    (F : ∀ (w : World) (mg : Str → Option Value) (fa : Addr) (h : Heap), (K w.params).In h → h.Ns mainGlobals mg → mg d.name = some (.ref fa) →
      ∃ fd : FuncData, (∀ (s : Shared) (u : Value), BindsTo s fd ⟨[u], []⟩ [(x, u)]) ∧
        ∀ base : Heap, (K w.params).In base → base.Ns mainGlobals mg → FnOk l.prog w (K w.params) mg base (CX w) k fa fd [x] (sp w))
    (hsp : ∀ (w : World) (H : Hp) (a : Addr) (ns : List Int), ns.length ≤ n → Only H → SqL (K w.params) H a (ns.map V.int) → sp w [.ref a] H (fun v _ => v = .bl true) fun _ _ _ => False)
    (hCX : ∀ (w : World) (H : Hp) (s : Shared) (e : Value) (s' : Shared), CX w [] H s (fun _ _ _ => False) e s' → False) :
    PySem.W.WalkO q loose XP YP l.row.toRowW d [] (fun f vs => PySem.call f vs) := by
  refine Att.attach_call hn hdf fun w s₀ s₁ mg mb fa o pm cd doc a vs ns G Y ho hd hcd hmg hobj hints hlen hg => ?_
  have KX := hY w _ Y
  obtain ⟨fd, hb, hF⟩ := F w mg fa _ KX G.T.g hmg
  exact law_call KX G.T.g G.T.b G.T.builtins G.T.nolimit hg hobj hints (Nat.le_trans hlen hn2) hr hF hb (fun H hO hS => hsp w H a ns hlen hO hS) fun H e s' => hCX w H s₁ e s'
end L2

/- THE LAST THEOREM (shape; LID, My.* are yours):
   My.Adr: a structure of the addresses that your layer names (classes, functions); My.Txt K t: a structure (Prop) of the equations over K;
   My.txt_mk : {K} {implicit addresses ..} (e1 : nsIn K mainGlobals "law" = some (some (.ref f))) (e2 : K.lookup f = some ⟨oc, od, .func (fnOf "law" "law" params body scope dV kV doc pm an cdv ct), sl⟩) (e3 : codeIn K cdv "law" = true) .. : ∃ t, My.Txt K t

set_option maxRecDepth 100000 in
set_option maxHeartbeats 0 in
theorem PySem.Challenge.cw_LID_holds : PySem.Challenge.rw_LID.Holds := by
  w_on; o_law; k_head; (case hw => w_witness2)
  k_fill
  refine L2.walk_of (l := PySem.Challenge.rw_LID) (n := 63) (k := 40) (x := "script") (CX := fun w => ..) (sp := fun _ => My.sp_law) rfl (by decide) rfl ⟨rfl, by decide, by decide⟩ (fun w h Y => PySem.W.kIn_of Y) ?F ?S ?C
  case F =>
    intro w mg fa h KX G hmg
    have T : ∃ t, My.Txt (L2.KOf KX) t := by
      dsimp only [L2.KOf]                          -- K must stand as «<heap const> w.params» for k_is
      refine' My.txt_mk ?e1 ?e2 ?e3 ..
      (case e1 => PySem.W.k_is)                    -- in the order: a name -> its address -> its object -> its parts
      (case e2 => PySem.W.k_is)
      ..
    obtain ⟨t, T⟩ := T
    have e0 := hmg.symm.trans (PySem.W.mg_of KX G T.law)
    cases e0                                       -- fa is the law's own address
    exact ⟨_, fun s u => .of_eq rfl, fun base kb nb => My.law_fn T kb nb⟩     -- if «.of_eq rfl» comes too early: refine' ⟨_, ?b, fun base kb nb => My.law_fn T kb nb⟩; exact fun s u => .of_eq rfl
  case S => exact fun w H a ns hl hO hS => ..
  case C => exact ..
(the tactic k_is has no namespace: write k_is) -/

namespace L2
open PySem PySem.Spec PyProof.Rows

/-- the j-th statement of a class's body -/
def inClass (s : Stmt) (j : Nat) : Stmt := match s with
  | .ClassDef _ _ _ body _ _ _ _ _ _ _ => body.getD j (.Pass ⟨0, 0, 0, 0⟩)
  | _ => .Pass ⟨0, 0, 0, 0⟩
def defArgs (s : Stmt) : Arguments := match s with
  | .FunctionDef _ a _ _ _ _ _ _ _ _ => a
  | _ => { posonlyargs := [], args := [], vararg := none, kwonlyargs := [], kw_defaults := [], kwarg := none, defaults := [] }
def defBody (s : Stmt) : List Stmt := match s with
  | .FunctionDef _ _ b _ _ _ _ _ _ _ => b
  | _ => []
def defScope (s : Stmt) : Scope := match s with
  | .FunctionDef _ _ _ _ _ _ sc _ _ _ => sc
  | _ => { kind := .function, names := [], isGenerator := false, isCoroutine := false }

abbrev CX0 : CXT := fun _ _ _ _ _ _ => False
abbrev E0 : XK := fun _ _ _ => False
theorem pass0 {X : Cx} : Passes CX0 X E0 := fun _ _ _ _ _ _ _ h => h.elim

structure Fun (K : PySem.W.Frag) (x qual : Str) (st : Stmt) (f : Addr) (fd : FuncData) : Prop where
  ex : ∃ (oc : Value) (od : Option Addr) (kV doc pm : Value) (an : Option Addr) (cdv ct : Value) (osl : Array (Option Value)),
    fd = PySem.W.fnOf x qual (defArgs st) (defBody st) (defScope st) .none kV doc pm an cdv ct ∧ K.lookup f = some ⟨oc, od, .func fd, osl⟩ ∧ PySem.W.codeIn K cdv qual = true
  kp : PySem.W.keepIn K (.ref f) = true
section
variable {P : Program} {w : World} {K : PySem.W.Frag} {mg : Str → Option Value} {base : Heap}
/-- THE RULE for a def: its body as a term of rules, and the reading of that term -/
theorem Fun.ok {x qual : Str} {st : Stmt} {f : Addr} {fd : FuncData} {N ps : List Str} {k : Nat} {sp : Sp} (F : Fun K x qual st f fd) (S : FnScope N ps (defScope st)) (len : ∀ vs H Q E, sp vs H Q E → vs.length = ps.length)
    (hbody : ∀ (cdv : Value) (A : Around) (outer : List Env) (s : Shared) (H : Hp) (vs : List V) (Q : VK) (E : XK), Room k (A.deeper (envOfC qual (defScope st) s.heap.objs.size f cdv)) → sp vs H Q E →
      ∃ t, PSs (cxOf CX0 P w K mg base N qual (defScope st) f cdv A outer s H E).nox (defBody st) t ∧ t { nx := fun _ H' => Q .non H', rt := Q } (start N vs) H) : FnOk P w K mg base CX0 (k + 1) f fd ps sp := by
  obtain ⟨oc, od, kV, doc, pm, an, cdv, ct, osl, rfl, lk, hcd⟩ := F.ex
  refine fn_of lk hcd S len fun A outer s H vs Q E hr hsp => ?_
  obtain ⟨t, h, q⟩ := hbody cdv A outer s H vs Q E hr hsp
  exact ⟨t, h.nox, q⟩
/-- how its arguments bind (no defaults): h is «fun _ _ _ _ _ _ us hl => match us, hl with | [_, _], _ => rfl», one _ a parameter -/
theorem Fun.binds {x qual : Str} {st : Stmt} {f : Addr} {fd : FuncData} {ps : List Str} (F : Fun K x qual st f fd)
    (h : ∀ (kV doc pm : Value) (an : Option Addr) (cdv ct : Value) (us : List Value), us.length = ps.length → bindArgs (PySem.W.fnOf x qual (defArgs st) (defBody st) (defScope st) .none kV doc pm an cdv ct) ⟨us, []⟩ = pure (ps.zip us)) : Binds K fd ps [] := by
  obtain ⟨oc, od, kV, doc, pm, an, cdv, ct, osl, rfl, lk, hcd⟩ := F.ex
  exact .all (h kV doc pm an cdv ct)
theorem fun_mk {x qual : Str} {st : Stmt} {f : Addr} {oc : Value} {od an : Option Addr} {osl : Array (Option Value)} {kV doc pm cdv ct : Value} (l : K.lookup f = some ⟨oc, od, .func (PySem.W.fnOf x qual (defArgs st) (defBody st) (defScope st) .none kV doc pm an cdv ct), osl⟩)
    (c : PySem.W.codeIn K cdv qual = true) (k : PySem.W.keepIn K (.ref f) = true) : Fun K x qual st f (PySem.W.fnOf x qual (defArgs st) (defBody st) (defScope st) .none kV doc pm an cdv ct) := ⟨⟨oc, od, kV, doc, pm, an, cdv, ct, osl, rfl, l, c⟩, k⟩
end
theorem small1000 {n : Nat} (h : n ≤ 1000) : n < sizeLine := Nat.lt_of_le_of_lt h (by decide)

section
variable {X : Cx}
theorem pv (i : Nat) {x : Str} {pos : Pos} (hN : X.N[i]? = some x := by rfl) (hv : Vis X.env.scope x := by first | exact Or.inl rfl | exact Or.inr (Or.inl rfl) | exact Or.inr (Or.inr rfl)) (hd : (x == ("__debug__" : Str)) = false := by decide)
    (hcd : (x == ("__classdict__" : Str)) = false := by decide) : PE X (.Name x pos) (tVar i) := pe_var hN hv hd hcd
end

theorem iteF {A B : Prop} (h : B) : if false = true then A else B := by
  rw [if_neg Bool.false_ne_true]
  exact h
theorem iteT {A B : Prop} (h : A) : if true = true then A else B := by
  rw [if_pos rfl]
  exact h
theorem ite2 {c A B : Prop} [Decidable c] (h1 : c → A) (h2 : ¬ c → B) : if c then A else B := by
  by_cases h : c
  · rw [if_pos h]
    exact h1 h
  · rw [if_neg h]
    exact h2 h
theorem iteNS {c A B : Prop} [Decidable c] (hc : c) (h : B) : if (!decide c) = true then A else B := by
  rw [decide_eq_true hc]
  exact iteF h

/-- all that was tracked is as it was -/
def Same (H H' : Hp) : Prop := ∀ b o, H b = some o → H' b = some o
theorem Same.refl (H : Hp) : Same H H := fun _ _ h => h
theorem Same.trans {H H1 H2 : Hp} (a : Same H H1) (b : Same H1 H2) : Same H H2 := fun c o h => b c o (a c o h)
theorem Same.free {H H' : Hp} (e : Same H H') {l : Addr} (h : H' l = Option.none) : H l = Option.none := by
  cases q : H l with
  | none => rfl
  | some o =>
    rw [e l o q] at h
    cases h
theorem Same.seq {K : PySem.W.Frag} {H H' : Hp} {a : Addr} {xs : List V} (e : Same H H') (h : SqL K H a xs) : SqL K H' a xs := by
  rcases h with (h | ⟨o, h⟩) | h
  · exact .inl (.inl (e _ _ h))
  · exact .inl (.inr ⟨o, e _ _ h⟩)
  · exact .inr h

end L2

set_option Elab.async false
set_option linter.all false
set_option maxRecDepth 100000
set_option maxHeartbeats 4000000
namespace L2
open PySem PySem.Spec PyProof.Rows

section
variable {κ : Type} [DecidableEq κ]
end


section
variable {P : Program} {w : World} {H : Hp} {h : Heap} {a : Addr}
end

section
variable {X : Cx} {pins : List (Addr × Obj)} {σ : St} {H : Hp} {s : Shared} {a : Addr} {y v : V} {u r : Value} {o : Option V} {A : Around} {E : Value → Shared → Prop}

end

section
variable {X : Cx} {pins : List (Addr × Obj)} {σ : St} {H : Hp} {s : Shared} {a : Addr} {kvs : List (Key × V)} {k : Key} {u : Value} {A : Around} {E : Value → Shared → Prop}
end


section
variable {X : Cx} {o i e value : Expr} {pos pos' tpos : Pos} {td ty tv : TE}
end


section
variable {X : Cx} {pos : Pos}
end

section
variable {X : Cx} {pins : List (Addr × Obj)} {σ : St} {H : Hp} {s : Shared} {a : Addr} {y d : V} {u r : Value} {o : Option V} {A : Around} {E : Value → Shared → Prop}
end

section
variable {X : Cx} {o e f : Expr} {apos cpos : Pos} {td ty tx : TE}
end

section
variable {X : Cx} {pins : List (Addr × Obj)} {σ : St} {H : Hp} {s : Shared} {a : Addr} {kvs : List (Key × V)} {A : Around} {E : Value → Shared → Prop}
end


section
variable {X : Cx} {pins : List (Addr × Obj)} {σ : St} {H : Hp} {s : Shared} {a : Addr} {y : V} {u : Value} {A : Around} {E : Value → Shared → Prop}
end
end L2
namespace L2
section
variable {κ : Type} [DecidableEq κ]
end
end L2

set_option Elab.async false
set_option linter.all false
set_option maxRecDepth 100000
set_option maxHeartbeats 4000000
namespace L2
open PySem PySem.Spec PyProof.Rows

theorem closure_go {env : Env} (f : Str × NameKind → List (Str × Addr) → Sem (ForInStep (List (Str × Addr))))
    (hf : ∀ n k r, f (n, k) r = if (k == NameKind.free) = true then (cellOf env n >>= fun a => pure (.yield ((n, a) :: r))) else pure (.yield r)) :
    ∀ (l : List (Str × NameKind)) (acc : List (Str × Addr)), (∀ x ∈ l, x.2 = .free → ∃ c, env.cells.lookup x.1 = some c) → (∀ y c, acc.lookup y = some c → env.cells.lookup y = some c) →
      ∃ cl, (forIn l acc f : Sem (List (Str × Addr))) = pure cl ∧ (∀ y c, cl.lookup y = some c → env.cells.lookup y = some c) ∧ (∀ y, (∃ c, acc.lookup y = some c) → ∃ c, cl.lookup y = some c) ∧ ∀ y, (y, NameKind.free) ∈ l → ∃ c, cl.lookup y = some c
  | [], acc, _, ha => ⟨acc, by rw [List.forIn_nil], ha, fun _ h => h, fun _ h => by cases h⟩
  | (n, k) :: r, acc, h, ha => by
    rw [List.forIn_cons, hf]
    have hr : ∀ x ∈ r, x.2 = .free → ∃ c, env.cells.lookup x.1 = some c := fun x hx => h x (List.mem_cons_of_mem _ hx)
    by_cases hk : k = .free
    · subst hk
      obtain ⟨c, hc⟩ := h (n, .free) List.mem_cons_self rfl
      have hcell : cellOf env n = pure c := by unfold cellOf; rw [hc]
      have look : ∀ y, ((n, c) :: acc).lookup y = if (y == n) = true then some c else acc.lookup y := fun y => by
        rw [List.lookup_cons]; cases y == n <;> rfl
      obtain ⟨cl, e, r1, r2, r3⟩ := closure_go f hf r ((n, c) :: acc) hr (fun y c' q => by
        rw [look] at q
        split at q
        · rename_i hy
          have e := eq_of_beq hy
          subst e
          rw [← q]; exact hc
        · exact ha y c' q)
      rw [if_pos (by rfl), hcell]
      refine ⟨cl, e, r1, fun y ⟨c', q⟩ => r2 y ?_, fun y hy => ?_⟩
      · rw [look]
        split
        · exact ⟨_, rfl⟩
        · exact ⟨_, q⟩
      · rcases List.mem_cons.mp hy with q | q
        · injection q with q1 _
          exact r2 y ⟨c, by rw [look, q1, if_pos (by simp)]⟩
        · exact r3 y q
    · have hb : (k == NameKind.free) = false := by simpa using hk
      obtain ⟨cl, e, r1, r2, r3⟩ := closure_go f hf r acc hr ha
      rw [if_neg (by rw [hb]; decide)]
      refine ⟨cl, e, r1, r2, fun y hy => ?_⟩
      rcases List.mem_cons.mp hy with q | q
      · injection q with _ q2
        exact absurd q2.symm hk
      · exact r3 y q
theorem closureFor_ok {scope : Scope} {env : Env} (h : ∀ x ∈ scope.names, x.2 = .free → ∃ c, env.cells.lookup x.1 = some c) :
    ∃ cl, closureFor scope env = pure cl ∧ (∀ y c, cl.lookup y = some c → env.cells.lookup y = some c) ∧ ∀ y, (y, NameKind.free) ∈ scope.names → ∃ c, cl.lookup y = some c := by
  have g := closure_go (env := env) (fun x r => match x with | (name, kind) => if (kind == NameKind.free) = true then (do let a ← cellOf env name; pure (ForInStep.yield ((name, a) :: r))) else pure (ForInStep.yield r)) (fun _ _ _ => rfl) scope.names [] h (fun _ _ q => by cases q)
  obtain ⟨cl, e, r1, _, r3⟩ := g
  refine ⟨cl, ?_, r1, r3⟩
  have e2 : closureFor scope env = (forIn scope.names ([] : List (Str × Addr)) (fun x r => match x with | (name, kind) => if (kind == NameKind.free) = true then (do let a ← cellOf env name; pure (ForInStep.yield ((name, a) :: r))) else pure (ForInStep.yield r)) >>= fun r => pure r) := rfl
  rw [e2, e]
  rfl

/-- N, sc: the names and the scope around; N', ix: the block's names, and where they stand around -/
def compOk (N : List Str) (sc scope : Scope) (N' : List Str) (ix : List (Option Nat)) : Bool :=
  (scope.names.all fun p => decide (p.2 ≠ .cell) && (decide (p.2 ≠ .local) || decide (scope.names.lookup p.1 = some .local)) && (decide (p.2 ≠ .free) || (decide (sc.names.lookup p.1 = some .cell) && decide (scope.names.lookup p.1 = some .free)))) &&
  decide N'.Nodup && decide (ix.length = N'.length) &&
  ((List.range ix.length).all fun j => match ix[j]? with
    | some (some i) => (match N'[j]? with | some y => decide (N[i]? = some y) && (scope.names.any fun p => decide (p.1 = y) && decide (p.2 = .free)) | none => false)
    | _ => true)
structure CompSc (N : List Str) (sc scope : Scope) (N' : List Str) (ix : List (Option Nat)) : Prop where
  kind : scope.kind = .function
  nocell : ∀ y ∈ scope.names, y.2 ≠ .cell
  names : ∀ y ∈ scope.names, y.2 = .local → scope.names.lookup y.1 = some .local
  nd : N'.Nodup
  len : ix.length = N'.length
  cap : ∀ (j i : Nat), ix[j]? = some (some i) → ∃ y, N'[j]? = some y ∧ N[i]? = some y ∧ (y, NameKind.free) ∈ scope.names
  free : ∀ y, (y, NameKind.free) ∈ scope.names → sc.names.lookup y = some .cell
  frees : ∀ y, (y, NameKind.free) ∈ scope.names → scope.names.lookup y = some .free
theorem CompSc.of {N : List Str} {sc scope : Scope} {N' : List Str} {ix : List (Option Nat)} (kind : scope.kind = .function) (h : compOk N sc scope N' ix = true) : CompSc N sc scope N' ix := by
  unfold compOk at h
  simp only [Bool.and_eq_true, List.all_eq_true, Bool.or_eq_true, decide_eq_true_eq] at h
  obtain ⟨⟨⟨h1, h2⟩, h3⟩, h4⟩ := h
  refine ⟨kind, fun y hy => (h1 y hy).1.1, fun y hy hl => ?_, h2, h3, fun j i e => ?_, fun y hy => ?_, fun y hy => ?_⟩
  · rcases (h1 y hy).1.2 with z | z
    · exact absurd hl z
    · exact z
  · have hj : j < ix.length := (List.getElem?_eq_some_iff.mp e).1
    have q := h4 j (List.mem_range.mpr hj)
    rw [e] at q
    dsimp only at q
    cases e2 : N'[j]? with
    | none => rw [e2] at q; cases q
    | some y =>
      rw [e2] at q
      simp only [Bool.and_eq_true, decide_eq_true_eq, List.any_eq_true] at q
      obtain ⟨q1, ⟨n, k⟩, q2, q3, q4⟩ := q
      dsimp only at q3 q4
      subst q3 q4
      exact ⟨_, rfl, q1, q2⟩
  · rcases (h1 _ hy).2 with z | z
    · exact absurd rfl z
    · exact z.1
  · rcases (h1 _ hy).2 with z | z
    · exact absurd rfl z
    · exact z.2

/-- the block's names at its entry -/
def inSt (ix : List (Option Nat)) (σ : St) : St := ix.map fun o => o.bind fun i => (σ[i]?).join
theorem inSt_get {ix : List (Option Nat)} {σ : St} {j : Nat} {v : V} (h : (inSt ix σ)[j]? = some (some v)) : ∃ i, ix[j]? = some (some i) ∧ σ[i]? = some (some v) := by
  unfold inSt at h
  rw [List.getElem?_map] at h
  cases e : ix[j]? with
  | none => rw [e] at h; cases h
  | some o =>
    rw [e] at h
    cases o with
    | none => cases h
    | some i =>
      refine ⟨i, rfl, ?_⟩
      have h' : (σ[i]?).join = some v := Option.some.inj h
      cases e2 : σ[i]? with
      | none => rw [e2] at h'; cases h'
      | some o2 => rw [e2] at h'; exact congrArg some h'

/-- the context of a comprehension's block: made at the state s (the iterator stands, its records at fp) -/
def cxIn (X : Cx) (scope : Scope) (N' : List Str) (C : Addr) (cl : List (Str × Addr)) (s : Shared) (H : Hp) (fp : List Addr) : Cx where
  prog := X.prog
  w := X.w
  K := X.K
  mg := X.mg
  base := X.base
  A := X.A
  N := N'
  s₀ := s
  H₀ := H
  env := compEnvC scope cl C X.env
  outer := X.stack
  stack := X.stack
  ex := fp
  fn := fun _ => false
  calm := X.calm
  pn := []
  xe := fun _ _ => False

theorem lookup_relabel {env : Env} : ∀ {names : List (Str × NameKind)} {x : Str} {k : NameKind}, (∀ y ∈ names, y.2 ≠ .cell) →
    (names.map fun (n, k) => if (k == NameKind.free && env.scope.kind == .function && env.kindOf n == some .cell) then (n, NameKind.cell) else (n, k)).lookup x = some k → k = .cell ∨ k = .free → (x, NameKind.free) ∈ names
  | [], _, _, _, h, _ => by simp at h
  | (n, k') :: r, x, k, hc, h, hk => by
    have ih := @lookup_relabel env r x k fun y hy => hc y (List.mem_cons_of_mem _ hy)
    change List.lookup x ((if (k' == NameKind.free && env.scope.kind == .function && env.kindOf n == some .cell) = true then (n, NameKind.cell) else (n, k')) :: _) = _ at h
    by_cases hx : x = n
    · subst hx
      by_cases hq : (k' == NameKind.free && env.scope.kind == .function && env.kindOf x == some .cell) = true
      · have hf : k' = .free := by
          simp only [Bool.and_eq_true] at hq
          exact eq_of_beq hq.1.1
        subst hf
        exact List.mem_cons_self
      · rw [if_neg hq] at h
        simp only [List.lookup_cons, beq_self_eq_true] at h
        have e : k' = k := Option.some.inj h
        subst e
        rcases hk with z | z
        · exact absurd z (hc (x, k') List.mem_cons_self)
        · subst z; exact List.mem_cons_self
    · have hb : (x == n) = false := beq_eq_false_iff_ne.mpr hx
      refine List.mem_cons_of_mem _ (ih ?_ hk)
      by_cases hq : (k' == NameKind.free && env.scope.kind == .function && env.kindOf n == some .cell) = true
      · rw [if_pos hq] at h
        simp only [List.lookup_cons, hb] at h
        exact h
      · rw [if_neg hq] at h
        simp only [List.lookup_cons, hb] at h
        exact h

theorem lookup_relabel_free {env : Env} : ∀ {names : List (Str × NameKind)} {x : Str}, names.lookup x = some .free →
    (names.map fun (n, k) => if (k == NameKind.free && env.scope.kind == .function && env.kindOf n == some .cell) then (n, NameKind.cell) else (n, k)).lookup x = some .cell ∨
    (names.map fun (n, k) => if (k == NameKind.free && env.scope.kind == .function && env.kindOf n == some .cell) then (n, NameKind.cell) else (n, k)).lookup x = some .free
  | [], _, h => by simp at h
  | (n, k') :: r, x, h => by
    have ih := @lookup_relabel_free env r x
    show List.lookup x ((if (k' == NameKind.free && env.scope.kind == .function && env.kindOf n == some .cell) = true then (n, NameKind.cell) else (n, k')) :: _) = _ ∨ List.lookup x ((if (k' == NameKind.free && env.scope.kind == .function && env.kindOf n == some .cell) = true then (n, NameKind.cell) else (n, k')) :: _) = _
    by_cases hx : x = n
    · subst hx
      simp only [List.lookup_cons, beq_self_eq_true] at h
      cases h
      by_cases hq : (NameKind.free == NameKind.free && env.scope.kind == .function && env.kindOf x == some .cell) = true
      · rw [if_pos hq]; left; simp [List.lookup_cons]
      · rw [if_neg hq]; right; simp [List.lookup_cons]
    · have hb : (x == n) = false := beq_eq_false_iff_ne.mpr hx
      simp only [List.lookup_cons, hb] at h
      by_cases hq : (k' == NameKind.free && env.scope.kind == .function && env.kindOf n == some .cell) = true
      · rw [if_pos hq]; simp only [List.lookup_cons, hb]; exact ih h
      · rw [if_neg hq]; simp only [List.lookup_cons, hb]; exact ih h

section
variable {X : Cx} {pins : List (Addr × Obj)} {σ : St} {H H' : Hp} {s : Shared}
/-- an object that stands, untracked, younger than the entry, is tracked from now on -/
theorem Inv.adopt {a : Addr} {o : HO} (I : Inv X pins σ H s) (hn : H a = none) (h1 : X.s₀.heap.objs.size ≤ a) (hL : a ≠ X.env.locals) (hC : ∀ x c, X.env.cells.lookup x = some c → c ≠ a) (hp : ∀ p ∈ X.pn ++ pins, p.1 ≠ a)
    (new : ObjOk X.prog X.w (upd H a o) s.heap a o) : Inv X pins σ (upd H a o) s := by
  have u : ∀ b ob, X.s₀.heap.get? b = some ob → b ≠ a := fun b ob e => Nat.ne_of_lt (Nat.lt_of_lt_of_le (Heap.lt_size e) h1)
  refine ⟨I.ok, I.os, I.bare, ⟨I.base.keep, I.base.slot, fun b ob e n hx => by rw [upd_ne (u b ob e)]; exact I.base.free b ob e n hx, I.base.there, fun b xs e => ?_, fun b ob xs e => ?_, fun b ps e => ?_⟩, I.loc, I.cell, ?_, fun x c e => ?_, fun p hq => ?_, fun b ob e => ?_, I.len⟩
  · have q := I.base.tups b xs e
    rw [upd_ne (ne_of_none q hn)]; exact q
  · have q := I.base.frzs b ob xs e
    rw [upd_ne (ne_of_none q hn)]; exact q
  · obtain ⟨more, q⟩ := I.base.tbls b ps e
    exact ⟨more, by rw [upd_ne (ne_of_none q hn)]; exact q⟩
  · rw [upd_ne (Ne.symm hL)]; exact I.free
  · rw [upd_ne (hC x c e)]; exact I.freeC x c e
  · obtain ⟨e, n, r⟩ := I.pin p hq
    exact ⟨e, by rw [upd_ne (hp p hq)]; exact n, r⟩
  · by_cases hb : b = a
    · subst hb
      rw [upd_same] at e
      cases e
      exact new
    · rw [upd_ne hb] at e
      exact (I.hok b ob e).stay (fun _ _ _ q => q) (fun c q => by rw [upd_ne (ne_of_none q hn)]; exact q) fun c xs q => by rw [upd_ne (ne_of_none q hn)]; exact q

/-- an address that the context may let turn, unseen -/
structure Loose (X : Cx) (pins : List (Addr × Obj)) (H : Hp) (C : Addr) : Prop where
  no : H C = none
  nl : C ≠ X.env.locals
  ab : X.s₀.heap.objs.size ≤ C
  nc : ∀ x c, X.env.cells.lookup x = some c → c ≠ C
  np : ∀ p ∈ X.pn ++ pins, p.1 ≠ C
theorem Inv.loose {C : Addr} (I : Inv X pins σ H s) (hC : s.heap.objs.size ≤ C) (hn : H' C = none) : Loose X pins H' C :=
  let ⟨a, b, _, d, e, f⟩ := I.fpOk (H' := H') hC hn
  ⟨a, b, Nat.le_trans I.sz hC, e, f⟩
theorem Inv.same {C : Addr} {h' : Heap} {s' : Shared} (I : Inv X pins σ H s) (l : Loose X pins H C) (sb : Heap.SameBut C s.heap h') (e : s' = { s with heap := h' }) : Inv X pins σ H s' := by
  subst e
  exact I.turned (t' := s.toks) (fun b o hb q => (sb.2 b hb).trans q) l.no (l.nl) (.inr l.ab) l.nc l.np

/-- the block's context is one -/
theorem Inv.cxIn_ok {scope : Scope} {N' : List Str} {ix : List (Option Nat)} {C : Addr} {cl : List (Str × Addr)} {fp : List Addr} (I : Inv X pins σ H s) (S : CompSc X.N X.env.scope scope N' ix) (hC : s.heap.objs.size ≤ C)
    (c1 : ∀ y c, cl.lookup y = some c → X.env.cells.lookup y = some c) (c2 : ∀ y, (y, NameKind.free) ∈ scope.names → ∃ c, cl.lookup y = some c)
    (hf : ∀ b ∈ fp, FpOk X pins H b) (hlt : ∀ b ∈ fp, b < s.heap.objs.size) : (cxIn X scope N' C cl s H fp).Ok where
  mod := I.ok.mod
  kind := S.kind
  glob := I.ok.glob
  blt := I.ok.blt
  above := hC
  inj := fun x y c h1 h2 => I.ok.inj x y c (c1 x c h1) (c1 y c h2)
  has := fun x h => by
    rcases h with h | h
    · exact c2 x (lookup_relabel S.nocell h (.inl rfl))
    · exact c2 x (lookup_relabel S.nocell h (.inr rfl))
  cab := fun _ _ h => by cases h
  hd := I.ok.hd
  frames := I.ok.frames
  stk := .inl rfl
  exf := fun b hb => ⟨Nat.ne_of_lt (Nat.lt_of_lt_of_le (hlt b hb) hC), fun x c e => (hf b hb).2.2.2.2.1 x c (c1 x c e)⟩
  bs := I.bs
  bsz := Nat.le_trans I.ok.bsz I.sz
  noex := fun b o e hb => by
    rcases (hf b hb).2.2.2.1 with z | z
    · exact I.ok.noex b o e z
    · exact absurd (Nat.lt_of_lt_of_le (Heap.lt_size e) (Nat.le_trans I.ok.bsz z)) (Nat.lt_irrefl _)
  exfs := fun b hb z => by
    rcases List.mem_cons.mp (I.stkSub b z) with q | q
    · exact (hf b hb).2.1 q
    · exact (hf b hb).2.2.1 q
  funs := I.stack
  frf := I.stkFree

theorem Inv.cxIn {scope : Scope} {N' : List Str} {ix : List (Option Nat)} {C D : Addr} {oD : Obj} {cl : List (Str × Addr)} {fp : List Addr} {h' : Heap} {tk : Nat} {m : Str → Option Value} (I : Inv X pins σ H s) (S : CompSc X.N X.env.scope scope N' ix)
    (hC : s.heap.objs.size ≤ C) (hD : s.heap.objs.size ≤ D) (hDC : D ≠ C) (eD : h'.get? D = some oD) (dD : ∀ v, oD.data ≠ .cell v)
    (c1 : ∀ y c, cl.lookup y = some c → X.env.cells.lookup y = some c) (c2 : ∀ y, (y, NameKind.free) ∈ scope.names → ∃ c, cl.lookup y = some c)
    (hf : ∀ b ∈ fp, FpOk X pins H b) (hlt : ∀ b ∈ fp, b < s.heap.objs.size) (k : ∀ b o, s.heap.get? b = some o → h'.get? b = some o) (hn : h'.Ns C m) :
    Inv (cxIn X scope N' C cl s H fp) [(D, oD)] (inSt ix σ) H { s with heap := h', toks := tk } where
  ok := I.cxIn_ok S hC c1 c2 hf hlt
  os := rfl
  bare := I.bare
  base := Un.kept k
  loc := by
    refine ⟨m, hn, fun j y v e1 e2 e3 => ?_⟩
    obtain ⟨i, h1, h2⟩ := inSt_get e2
    obtain ⟨z, hz1, hz2, hz3⟩ := S.cap j i h1
    change N'[j]? = some y at e1
    rw [e1] at hz1
    cases hz1
    have hk := S.free y hz3
    obtain ⟨m0, hn0, hl⟩ := I.loc
    obtain ⟨u, ru, lk⟩ := hl i y v hz2 h2 (.inr (.inl hk))
    refine ⟨u, ru, .inr ⟨?_, ?_⟩⟩
    · exact lookup_relabel_free (env := X.env) (S.frees y hz3)
    · rcases lk with ⟨k1, _⟩ | ⟨_, c, hc, ic⟩
      · rw [show X.env.kindOf y = some .cell from hk] at k1; cases k1
      · obtain ⟨c', hc'⟩ := c2 y hz3
        have := c1 y c' hc'
        rw [hc] at this
        cases this
        obtain ⟨o, ho, hd⟩ := ic
        exact ⟨c, hc', o, k _ _ ho, hd⟩
  cell := fun y c e => by
    obtain ⟨v, o, ho, hd⟩ := I.cell y c (c1 y c e)
    exact ⟨v, o, k _ _ ho, hd⟩
  free := I.hok.fresh hC
  freeC := fun y c e => I.freeC y c (c1 y c e)
  pin := fun p hp => by
    have e : p = (D, oD) := by
      rcases List.mem_append.mp hp with z | z
      · cases z
      · exact List.mem_singleton.mp z
    subst e
    refine ⟨eD, I.hok.fresh hD, hDC, fun z => ?_, dD⟩
    rcases List.mem_cons.mp (I.stkSub D z) with q | q
    · exact absurd (Nat.lt_of_lt_of_le I.lt hD) (by rw [show D = X.env.locals from q]; exact Nat.lt_irrefl _)
    · exact I.nofs hD q
  hok := I.hok.kept k
  len := by
    show (inSt ix σ).length = N'.length
    unfold inSt
    rw [List.length_map]
    exact S.len

end

section
variable {prog : Program} {w : World} {A : Around} {R : Result → Shared → Prop} {s : Shared}
theorem compLoop_any {elt target iter : Expr} {ifs : List Expr} {scope : Scope} {pos : Pos} {it acc : Value} {env : Env} (I : Nat → Shared → Prop)
    (turn : ∀ n s, I n s → wpAny (model prog w) A (pyNext it) (fun r s₁ => match r with
      | none => R (.ok .next) s₁
      | some v => wpAny (model prog w) A (letOwnedTupleGo target it v) (fun _ s₁' => wpAny (model prog w) A (assign target env v) (fun _ s₂ =>
          wpAny (model prog w) A (forIn ifs true fun c r => if r = true then do let ok ← isTrue c env (eval c env); pure (ForInStep.yield ok) else pure (ForInStep.yield r)) (fun ok s₃ =>
            if ok = true then wpAny (model prog w) A (eval elt env) (fun x s₄ =>
              wpAny (model prog w) A (call (.builtin "list.append") [acc, x]) (fun _ s₅ => ∃ m, m < n ∧ I m s₅) (fun _ _ => False) s₄) (fun _ _ => False) s₃
            else ∃ m, m < n ∧ I m s₃) (fun _ _ => False) s₂) (fun _ _ => False) s₁') (fun _ _ => False) s₁) (fun _ _ => False) s)
    (n : Nat) (h : I n s) :
    codeAny (model prog w) A (.compLoop (.ListComp elt [⟨target, iter, ifs, 0⟩] scope pos) 0 it acc env) R s := by
  refine codeAny_loop rfl I (fun n s hI => ?_) n h
  show wpAny _ A ((compTurn (.ListComp elt [⟨target, iter, ifs, 0⟩] scope pos) 0 it acc env).onRaise (fun x => do noteFrame x env; theTreesLotGoes x)) _ _ s
  refine wpAny_noted ?_
  rw [compTurn_list]
  refine wpAny_bind (wpAny_standAt (wpAny_bind (wpAny_mono (turn n s hI) (fun r s₁ h₁ => ?_) fun _ _ h' => h'.elim)))
  cases r with
  | none => exact wpAny_pure h₁
  | some v =>
    refine wpAny_bind (wpAny_mono h₁ (fun _ s₁' h₁' => ?_) fun _ _ h' => h'.elim)
    refine wpAny_bind (wpAny_mono h₁' (fun _ s₂ h₂ => wpAny_bind (wpAny_mono h₂ (fun ok s₃ h₃ => ?_) fun _ _ h' => h'.elim)) fun _ _ h' => h'.elim)
    cases ok with
    | false => exact wpAny_pure ⟨rfl, h₃⟩
    | true =>
      exact wpAny_bind (wpAny_bind (wpAny_mono h₃ (fun x s₄ h₄ => wpAny_bind (wpAny_mono h₄ (fun _ s₅ h₅ => wpAny_pure (wpAny_pure ⟨rfl, h₅⟩)) fun _ _ h' => h'.elim)) fun _ _ h' => h'.elim))
end

/-- the tests of a clause -/
def PIfs (X : Cx) (ifs : List Expr) (t : TT) : Prop :=
  ∀ (pins : List (Addr × Obj)) (s : Shared) (σ : St) (H : Hp) (Q : Bool → Hp → Prop), Inv X pins σ H s → t σ H Q →
    wpAny (model X.prog X.w) X.A (forIn ifs true fun c r => if r = true then do let ok ← isTrue c X.env (eval c X.env); pure (ForInStep.yield ok) else pure (ForInStep.yield r)) (TP X pins σ Q) X.xe s
def tYes : TT := fun _ H Q => Q true H
theorem pf_nil {X : Cx} : PIfs X [] tYes := fun _ _ _ H _ I h => wpAny_tests_nil ⟨H, I, h⟩
theorem pf_one {X : Cx} {c : Expr} {t : TT} (h : PT X c t) : PIfs X [c] t := fun pins s σ H Q I q => wpAny_tests_one (h pins s σ H Q I q)

/-- what the walk of a comprehension asks: W by the turn, a measure, the items so far, the heap -/
def CompW (σ' : St) (j : Nat) (ti : TT) (te : TE) (Q : VK) (J : It) (H : Hp) : Prop :=
  ∃ W : Nat → Nat → List V → Hp → Prop, (∃ m, W 0 m [] H) ∧ ∀ i m ys H, W i m ys H →
    (J.stop i H ∧ ∀ D, H D = none → Q (.ref D) (upd H D (.lst ys))) ∨
    (J.go i H ∧ ys.length < sizeLine ∧ ∃ N : List V → Hp → Prop, (∀ ys' H', N ys' H' → ∃ m', m' < m ∧ W (i + 1) m' ys' H') ∧
      ∀ x H', J.yld i H x H' → ti (σ'.set j (some x)) H' fun b H2 => if b = true then te (σ'.set j (some x)) H2 fun y H3 => N (ys ++ [y]) H3 else N ys H2)
def tComp (ix : List (Option Nat)) (wi : TI) (j : Nat) (ti : TT) (te : TE) : TE := fun σ H Q => wi σ H fun J H1 => CompW (inSt ix σ) j ti te Q J H1

def CompT (σ' : St) (g : TG) (ti : TT) (te : TE) (Q : VK) (J : It) (H : Hp) : Prop :=
  ∃ W : Nat → Nat → List V → Hp → Prop, (∃ m, W 0 m [] H) ∧ ∀ i m ys H, W i m ys H →
    (J.stop i H ∧ ∀ D, H D = none → Q (.ref D) (upd H D (.lst ys))) ∨
    (J.go i H ∧ ys.length < sizeLine ∧ ∃ N : List V → Hp → Prop, (∀ ys' H', N ys' H' → ∃ m', m' < m ∧ W (i + 1) m' ys' H') ∧
      ∀ x H', J.yld i H x H' → g x σ' H' fun σ2 H1 => (σ2.length = σ'.length ∧ ∀ (k : Nat) z, σ'[k]? = some (some z) → σ2[k]? = some (some z)) ∧ ti σ2 H1 fun b H2 => if b = true then te σ2 H2 fun y H3 => N (ys ++ [y]) H3 else N ys H2)
section
variable {X : Cx} {pins : List (Addr × Obj)} {σ : St} {H : Hp} {s : Shared} {tg elt iter : Expr} {g : TG} {ifs : List Expr} {scope : Scope} {pos : Pos} {N' : List Str} {ix : List (Option Nat)} {wi : TI} {ti : TT} {te : TE}
theorem comp_runT {it : Addr} {fp : List Addr} {tn : Nat → Heap → Prop} {J : It} {cl : List (Str × Addr)} {E : Value → Shared → Prop} {RR : Value → Addr → Result → Shared → Prop} {Q : VK}
    (S : CompSc X.N X.env.scope scope N' ix) (hg : ∀ C cl s H fp, N'.Nodup → PG (cxIn X scope N' C cl s H fp) tg g) (hc : X.calm = true)
    (ht : ∀ C cl s H fp, PIfs (cxIn X scope N' C cl s H fp) ifs ti) (he : ∀ C cl s H fp, PE (cxIn X scope N' C cl s H fp) elt te)
    (c1 : ∀ y c, cl.lookup y = some c → X.env.cells.lookup y = some c) (c2 : ∀ y, (y, NameKind.free) ∈ scope.names → ∃ c, cl.lookup y = some c)
    (I : Inv X pins σ H s) (T : Turn X.prog X.w X.K tg J fp it tn) (st : tn 0 s.heap) (hf : ∀ b ∈ fp, FpOk X pins H b) (hW : CompT (inSt ix σ) g ti te Q J H)
    (hRR : ∀ D C H' s' m', Inv X pins σ H' s' → s'.heap.Ns C m' → Loose X pins H' C → s.heap.objs.size ≤ C → Q (.ref D) H' → RR (.ref D) C (.ok .next) s') :
    wpAny (model X.prog X.w) X.A (newList []) (fun acc s₃ => wpAny (model X.prog X.w) X.A (newFunctionEnv scope X.env.globals cl [] X.env.qual none .none (some X.env)) (fun cenv s₄ =>
      codeAny (model X.prog X.w) X.A (.compStart (.ListComp elt [⟨tg, iter, ifs, 0⟩] scope pos) 0 (.ref it) acc { cenv with scope := relabel scope X.env }) (RR acc cenv.locals) s₄) E s₃) E s := by
  obtain ⟨W, ⟨m0, w0⟩, turn⟩ := hW
  have hlt : ∀ b ∈ fp, b < s.heap.objs.size := fun b hb => let ⟨_, e, _⟩ := T.obj _ _ st b hb; Heap.lt_size e
  refine wpAny_newObj_type (wpAny_newFunctionEnv S.nocell (by intro y hy; simp at hy) (fun h₁ hns₁ hsb₁ => ?_) S.kind)
  dsimp only at hns₁ hsb₁ ⊢
  generalize hH2 : s.heap.push { cls := .type "list", dict := none, data := .seq ([] : List Value).toArray } = H2 at hns₁ hsb₁ ⊢
  have hC : H2.objs.size = s.heap.objs.size + 1 := by rw [← hH2, Heap.size_push]
  have hDC : s.heap.objs.size ≠ H2.objs.size := by rw [hC]; exact Nat.ne_of_lt (Nat.lt_succ_self _)
  have hCle : s.heap.objs.size ≤ H2.objs.size := by rw [hC]; exact Nat.le_succ _
  have old : ∀ b o, s.heap.get? b = some o → h₁.get? b = some o := fun b o e => hsb₁.extBut b o (by rw [hC]; exact Nat.ne_of_lt (Nat.lt_succ_of_lt (Heap.lt_size e))) (Heap.get?_push_of_some _ (hH2 ▸ Heap.get?_push_of_some _ e))
  have hacc : h₁.get? s.heap.objs.size = some { cls := .type "list", data := .seq ([] : List Value).toArray 0 } := hsb₁.extBut _ _ hDC (Heap.get?_push_of_some _ (hH2 ▸ Heap.get?_push_size _ rfl))
  have st1 : tn 0 h₁ := T.keep _ _ _ st fun b hb o e => old b o e
  have loop : ∀ s₃ : Shared, s₃ = { s with heap := h₁, toks := s.toks + ([] : List (Str × Value)).length } →
      codeAny (model X.prog X.w) X.A (.compLoop (.ListComp elt [⟨tg, iter, ifs, 0⟩] scope pos) 0 (.ref it) (.ref s.heap.objs.size) (compEnvC scope cl H2.objs.size X.env))
        (RR (.ref s.heap.objs.size) H2.objs.size) s₃ := by
    rintro s₃ rfl
    -- the block's context
    generalize hX' : cxIn X scope N' H2.objs.size cl s H fp = X'
    have I0 : Inv X' [(s.heap.objs.size, { cls := .type "list", data := .seq ([] : List Value).toArray 0 })] (inSt ix σ) H { s with heap := h₁, toks := s.toks + ([] : List (Str × Value)).length } := by
      rw [← hX']
      exact I.cxIn S hCle (Nat.le_refl _) hDC hacc (fun v z => by cases z) c1 c2 hf hlt old hns₁
    have stat : ∀ {H' : Hp} {o : Obj}, (∀ b ∈ fp, H' b = none) → ∀ b ∈ fp, FpOk X' [(s.heap.objs.size, o)] H' b := fun {H' o} hn b hb => by
      rw [← hX']
      refine ⟨hn b hb, Nat.ne_of_lt (Nat.lt_of_lt_of_le (hlt b hb) hCle), fun z => ?_, .inl hb, fun y c e => (hf b hb).2.2.2.2.1 y c (c1 y c e), fun p hp z => ?_⟩
      · rcases List.mem_cons.mp (I.stkSub b z) with q | q
        · exact (hf b hb).2.1 q
        · exact (hf b hb).2.2.1 q
      · have e : p = (s.heap.objs.size, o) := by
          rcases List.mem_append.mp hp with q | q
          · cases q
          · exact List.mem_singleton.mp q
        subst e
        exact absurd (hlt b hb) (by rw [← z]; exact Nat.lt_irrefl _)
    have xP : X'.prog = X.prog := by rw [← hX']; rfl
    have xw : X'.w = X.w := by rw [← hX']; rfl
    have xK : X'.K = X.K := by rw [← hX']; rfl
    have xc : X'.calm = true := by rw [← hX']; exact hc
    have xA : X'.A = X.A := by rw [← hX']; rfl
    have xe : X'.env = compEnvC scope cl H2.objs.size X.env := by rw [← hX']; rfl
    have xx : X'.xe = fun _ _ => False := by rw [← hX']; rfl
    have xN : X'.N = N' := by rw [← hX']; rfl
    have ht' : PIfs X' ifs ti := by rw [← hX']; exact ht _ _ _ _ _
    have he' : PE X' elt te := by rw [← hX']; exact he _ _ _ _ _
    have hg' : PG X' tg g := by rw [← hX']; exact hg _ _ _ _ _ S.nd
    rw [← xA, ← xP, ← xw, ← xe]
    refine compLoop_any (fun k s' => ∃ i ys us n H', Inv X' [(s.heap.objs.size, { cls := .type "list", data := .seq (us : List Value).toArray n })] (inSt ix σ) H' s' ∧ Vals ys us ∧ ys.length ≤ sizeLine ∧ tn i s'.heap ∧ (∀ b ∈ fp, H' b = none) ∧ W i k ys H') ?_ m0
      ⟨0, [], [], 0, H, I0, .nil, Nat.zero_le _, st1, fun b hb => (hf b hb).1, w0⟩
    rintro k s3 ⟨i, ys, us, n, H3, I3, rv, hz, st3, fr3, w3⟩
    rcases turn i k ys H3 w3 with ⟨stop, qn⟩ | ⟨go, hz', N, hN, step⟩
    · rw [← xP, ← xw, ← xK] at T
      refine thn (T.done X' rfl rfl rfl xc i _ s3 (inSt ix σ) H3 _ I3 (stat fr3) st3 stop) fun r s4 ⟨hr, I4⟩ => ?_
      subst hr
      obtain ⟨m', hn', _⟩ := id I4.loc
      rw [xe] at hn'
      obtain ⟨eD, nD, _⟩ := I4.pin _ (List.mem_append_right _ List.mem_cons_self)
      have un : Un (frs X.stack) fp H H3 s.heap s4.heap := by have := I4.base; rw [← hX'] at this; exact this
      have os : s4.os = s.os := by have := I4.os; rw [← hX'] at this; exact this
      have hok : HOk X.prog X.w H3 s4.heap := by have := I4.hok; rw [xP, xw] at this; exact this
      have hCn : H3 H2.objs.size = none := by have := I4.free; rw [xe] at this; exact this
      have I5 : Inv X pins σ H3 s4 := I.call' os un hok I4.bare fun b hb => let ⟨_, a, _, c, d, e⟩ := hf b hb; ⟨c, a, d, e⟩
      have lD : Loose X pins H3 s.heap.objs.size := I.loose (Nat.le_refl _) nD
      have I6 := I5.adopt (o := .lst ys) lD.no lD.ab lD.nl lD.nc lD.np ⟨hz, us, n, rv, eD⟩
      exact hRR _ _ _ _ m' I6 hn' (I.loose hCle (by rw [upd_ne (Ne.symm hDC)]; exact hCn)) hCle (qn _ nD)
    · have T' := T
      rw [← xP, ← xw, ← xK] at T'
      refine thn (T'.item X' rfl rfl rfl xc i _ s3 (inSt ix σ) H3 _ I3 (stat fr3) st3 go) fun r s4 ⟨u, hr, h4⟩ => ?_
      subst hr
      refine thn h4 fun _ s5 ⟨v, H5, I5, r5, y5, st5, fr5⟩ => ?_
      have I5' := I5.pinned (stat fr5) (T.obj _ _ st5)
      have t5 := hg' _ s5 _ H5 v u _ I5' r5 (step v H5 y5)
      rw [xx] at t5
      refine thn t5 fun _ s6 ⟨σ6, H6, I6, ⟨kl, kw⟩, q6⟩ => ?_
      have t6 := ht' _ s6 _ H6 _ I6 q6
      rw [xx] at t6
      refine thn t6 fun ok s7 ⟨H7, I7, q7⟩ => ?_
      have weak : ∀ {H8 : Hp} {s8 : Shared}, Inv X' ([(s.heap.objs.size, { cls := .type "list", data := .seq us.toArray n })] ++ pinsAt fp s5.heap) σ6 H8 s8 →
          Inv X' ([(s.heap.objs.size, { cls := .type "list", data := .seq us.toArray n })] ++ pinsAt fp s5.heap) (inSt ix σ) H8 s8 ∧ tn (i + 1) s8.heap ∧ ∀ b ∈ fp, H8 b = none := fun {H8 s8} I8 => by
        refine ⟨I8.weak kl.symm kw, T.keep _ _ _ st5 fun b hb o e => (I8.pin (b, o) (List.mem_append_right _ (List.mem_append_right _ (mem_pinsAt hb e)))).1, fun b hb => ?_⟩
        · obtain ⟨o, e, d⟩ := T.obj _ _ st5 b hb
          exact (I8.pin (b, o) (List.mem_append_right _ (List.mem_append_right _ (mem_pinsAt hb e)))).2.1
      cases ok with
      | false =>
        have q7' : N ys H7 := q7
        obtain ⟨m', hm, w7⟩ := hN ys H7 q7'
        obtain ⟨J7, st7, fr7⟩ := weak I7
        exact ⟨m', hm, i + 1, ys, us, n, H7, J7.unpinned, rv, hz, st7, fr7, w7⟩
      | true =>
        have q7' : te σ6 H7 fun y H3 => N (ys ++ [y]) H3 := q7
        have t8 := he' _ s7 _ H7 _ I7 q7'
        rw [xx] at t8
        show wpAny _ _ _ _ _ _
        refine thn t8 fun uy s8 ⟨y, H8, I8, r8, n8⟩ => ?_
        obtain ⟨m', hm, w8⟩ := hN _ _ n8
        obtain ⟨J8, st8, fr8⟩ := weak I8
        have K8 := J8.unpinned
        obtain ⟨eD, nD, neL, nfs, _⟩ := K8.pin _ (List.mem_append_right _ List.mem_cons_self)
        have hl := rv.length
        refine call_meets F.slot_list_append ⟨_, eD, rfl⟩ F.entry_list_append (F.args_list_append_2 _ _) (PySem.list_append s.heap.objs.size us.toArray n uy (by rw [List.size_toArray]; (first | lia | omega))) ⟨eD, ?_⟩
        have eD2 := PySem.IsL.update eD (·.push uy)
        have dD : ∀ p ∈ X'.pn ++ [], p.1 ≠ s.heap.objs.size := fun p hp => by
          rw [← hX'] at hp
          rcases List.mem_append.mp hp with q | q <;> cases q
        have K0 : Inv X' [] (inSt ix σ) H8 s8 := K8.pins_of fun p hp => by cases hp
        have K9 := K0.turned (t' := s8.toks) (h' := s8.heap.update s.heap.objs.size (Obj.mapSeq (·.push uy))) (it := s.heap.objs.size) (fun b o hb q => (Heap.get?_update_other s8.heap _ (Ne.symm hb)).trans q) nD neL (.inr (by rw [← hX']; exact Nat.le_refl _)) (fun y' c e z => by
          rw [xe] at e
          obtain ⟨v', q⟩ := I.cell y' c (c1 y' c e)
          exact absurd q.lt (by rw [z]; exact Nat.lt_irrefl _)) dD
        refine ⟨m', hm, i + 1, ys ++ [y], us ++ [uy], (if ((us.toArray.push uy).size == us.toArray.size) = true then n else n + 1), H8, K9.pins_of fun p hp => ?_, rv.append (.cons r8 .nil), by rw [List.length_append, List.length_singleton]; (first | lia | omega), ?_, fr8, w8⟩
        · have e := List.mem_singleton.mp hp
          subst e
          exact ⟨by rw [show (us ++ [uy]).toArray = us.toArray.push uy by simp]; exact eD2, nD, neL, nfs, fun v z => by cases z⟩
        · exact T.keep _ _ _ st8 fun b hb o e => (Heap.get?_update_other s8.heap _ (Nat.ne_of_gt (hlt b hb))).trans e
  exact codeAny_compStart_list (loop _ rfl) (T.self X.A 0 _ _ _ st1 (loop _ rfl))

end
section
variable {X : Cx} {pins : List (Addr × Obj)} {σ : St} {H : Hp} {s : Shared} {x : Str} {px : Pos} {elt iter : Expr} {ifs : List Expr} {scope : Scope} {pos : Pos} {N' : List Str} {ix : List (Option Nat)} {j : Nat} {wi : TI} {ti : TT} {te : TE}
theorem compW_T {Q : VK} {J : It} {H : Hp} (hij : ix[j]? = some none) (h : CompW (inSt ix σ) j ti te Q J H) : CompT (inSt ix σ) (gName j) ti te Q J H := by
  obtain ⟨W, w0, turn⟩ := h
  refine ⟨W, w0, fun i m ys H w => ?_⟩
  rcases turn i m ys H w with z | ⟨go, hz, N, hN, step⟩
  · exact .inl z
  · refine .inr ⟨go, hz, N, hN, fun x H' y => ⟨⟨by simp, fun k z e => ?_⟩, step x H' y⟩⟩
    by_cases hk : j = k
    · subst hk
      exfalso
      obtain ⟨i', q1, _⟩ := inSt_get e
      rw [hij] at q1
      cases q1
    · rw [List.getElem?_set_ne hk]; exact e
theorem pg_own {C : Addr} {cl : List (Str × Addr)} {s : Shared} {H : Hp} {fp : List Addr} (nd : N'.Nodup) (hj : N'[j]? = some x) (hx : scope.names.lookup x = some .local) : PG (cxIn X scope N' C cl s H fp) (.Name x px) (gName j) :=
  pg_name nd hj (.inl (lookup_relabel_local hx)) (.inr (lookup_relabel_local hx))
theorem comp_clos (I : Inv X pins σ H s) (S : CompSc X.N X.env.scope scope N' ix) : ∃ cl, closureFor scope X.env = pure cl ∧ (∀ y c, cl.lookup y = some c → X.env.cells.lookup y = some c) ∧ ∀ y, (y, NameKind.free) ∈ scope.names → ∃ c, cl.lookup y = some c :=
  closureFor_ok fun ⟨n, k⟩ hy hk => by
    dsimp only at hk
    subst hk
    exact I.ok.has n (.inl (S.free n hy))
/-- [elt for x in iter if ..] -/
theorem pe_comp {N' : List Str} {ix : List (Option Nat)} (S : CompSc X.N X.env.scope scope N' ix) (hj : N'[0]? = some x) (hij : ix[0]? = some none) (hx : scope.names.lookup x = some .local) (hc : X.calm = true) (hi : PI X (.Name x px) iter wi)
    (ht : ∀ C cl s H fp, PIfs (cxIn X scope N' C cl s H fp) ifs ti) (he : ∀ C cl s H fp, PE (cxIn X scope N' C cl s H fp) elt te) (hs : ∀ x, foldedSetIterable iter X.env x = pure x) :
    PE X (.ListComp elt [⟨.Name x px, iter, ifs, 0⟩] scope pos) (tComp ix wi 0 ti te) := by
  intro pins s σ H Q I h
  rw [eval_ListComp]
  obtain ⟨cl, hcl, c1, c2⟩ := comp_clos I S
  refine wpAny_comprehension_free (use := none) rfl hs hcl S.kind S.names (thn (hi pins s σ H _ I h) fun v s1 h1 => thn h1 fun itv s2 h2 => ?_)
  obtain ⟨it, fp, tn, J, H2, e, I2, T, st2, f2, hW⟩ := h2
  subst e
  refine comp_runT (RR := fun acc C => compPost (model X.prog X.w) X.A X.xe none (EP X pins σ Q) acc C) S (fun _ _ _ _ _ nd => pg_own nd hj hx) hc ht he c1 c2 I2 T st2 f2 (compW_T hij hW) fun D C H' s' m' I' hn lo _ q => ?_
  exact ⟨m', hn, fun h' hs' => ⟨.ref D, H', I'.same lo hs' rfl, rfl, q⟩⟩
/-- y = [elt for x in iter if ..], y a plain local name -/
theorem ps_setComp {y : Str} {py spos : Pos} {i : Nat} {N' : List Str} {ix : List (Option Nat)} (hN : X.N.Nodup) (hi' : X.N[i]? = some y) (hy : X.env.scope.names.lookup y = some .local)
    (S : CompSc X.N X.env.scope scope N' ix) (hj : N'[0]? = some x) (hij : ix[0]? = some none) (hx : scope.names.lookup x = some .local) (hc : X.calm = true) (hi : PI X (.Name x px) iter wi)
    (ht : ∀ C cl s H fp, PIfs (cxIn X scope N' C cl s H fp) ifs ti) (he : ∀ C cl s H fp, PE (cxIn X scope N' C cl s H fp) elt te)
    (hsw : swapsWith (.ListComp elt [⟨.Name x px, iter, ifs, 0⟩] scope pos) (some (.Name y py)) spos.line X.env = pure true := by rfl) (hs : ∀ x, foldedSetIterable iter X.env x = pure x := by intro _; rfl) :
    PS X (.Assign [.Name y py] (.ListComp elt [⟨.Name x px, iter, ifs, 0⟩] scope pos) spos) (tAsg (tComp ix wi 0 ti te) (gName i)) := by
  intro pins s σ H D I h
  obtain ⟨cl, hcl, c1, c2⟩ := comp_clos I S
  rw [exec_Assign_Name_used _ _ _ _ hsw]
  refine wpAny_bind (wpAny_standAt (wpAny_bind ?_))
  show wpAny _ X.A (do let _ ← comprehension (.ListComp elt [⟨.Name x px, iter, ifs, 0⟩] scope pos) scope X.env _ (newList []) false (eval iter X.env) (some (assign (.Name y py) X.env))) _ _ s
  refine wpAny_bind (wpAny_mono (wpAny_comprehension_free (use := some (assign (.Name y py) X.env)) (Q := fun _ s' => SP X pins D .next s') rfl hs hcl S.kind S.names
    (thn (hi pins s σ H _ I h) fun v s1 h1 => thn h1 fun itv s2 h2 => ?_)) (fun _ s' hq => wpAny_pure (wpAny_pure hq)) fun _ _ e => e)
  obtain ⟨it, fp, tn, J, H2, e, I2, T, st2, f2, hW⟩ := h2
  subst e
  refine comp_runT (RR := fun acc C => compPost (model X.prog X.w) X.A X.xe (some (assign (.Name y py) X.env)) (fun _ s' => SP X pins D .next s') acc C) S (fun _ _ _ _ _ nd => pg_own nd hj hx) hc ht he c1 c2 I2 T st2 f2 (compW_T hij hW) fun D' C H' s' m' I' hn lo hC q => ?_
  show wpAny _ X.A (assign (.Name y py) X.env (.ref D')) _ _ _
  refine wpAny_assign_Name (store_ok2 (i := i) (v := .ref D') I' hN hi' (.inl hy) rfl (fun s3 I3 ⟨a, sb, ha⟩ => ?_) (.inr hy))
  have hCa : C ≠ a := by
    rcases ha with z | z
    · rw [z]; exact lo.nl
    · exact Ne.symm (lo.nc _ _ z)
  refine ⟨m', hn.sameBut sb hCa, fun h' hs' => ?_⟩
  exact ⟨_, H', I3.same lo hs' rfl, q⟩
end

end L2

set_option Elab.async false
set_option linter.all false
set_option maxRecDepth 100000
set_option maxHeartbeats 4000000
namespace L2
open PySem PySem.Spec PyProof.Rows

section
variable {X : Cx}
def clsV : V → Option Value
  | .ty n => some (.type n)
  | .ref a => some (.ref a)
  | _ => none
theorem clsV_rel {x : V} {c u : Value} (h : clsV x = some c) (r : RelV x u) : u = c := by
  cases x <;> first | (cases h; exact r) | cases h
def rIsi (K : PySem.W.Frag) : List V → Hp → VK → Prop := fun xs H Q => ∃ x t cv c b, xs = [x, cv] ∧ clsV cv = some c ∧ TyOf K H x t ∧ PySem.W.kitOne K t c = some b ∧ Q (.bl b) H
theorem call_isi : CallR X (.builtin "isinstance") (rIsi X.K) := by
  intro pins s σ H xs us Q I r h
  obtain ⟨x, t, cv, c, b, rfl, hc, ty, e, q⟩ := h
  obtain ⟨u, w', rfl, ru, rc⟩ := vals2 r
  have ec := clsV_rel hc rc
  subst ec
  exact isinst_ok I ru ty e fun tk => ⟨.bl b, H, I.tok tk, rfl, q⟩

def rInsert : V → List V → Hp → VK → Prop := fun x vs H Q => ∃ l xs i y, x = .ref l ∧ vs = [.int i, y] ∧ H l = some (.lst xs) ∧ 0 ≤ i ∧ i ≤ (xs.length : Int) ∧ xs.length < sizeLine ∧ Q .non (upd H l (.lst (xs.take i.toNat ++ y :: xs.drop i.toNat)))
theorem mt_insert : MtM X "list.insert" rInsert := by
  intro pins s σ H x vs v us Q I rx rv h
  obtain ⟨l, xs, i, y, rfl, rfl, hH, h0, h1, hz, q⟩ := h
  cases rx
  obtain ⟨ui, u, rfl, ri, ru⟩ := rv.two
  obtain ⟨t, rfl⟩ := ri
  obtain ⟨z, its, n, r, hl, e⟩ := I.lstM hH
  have hsz : sizeLine = 16777216 := sizeLine_eq
  have hf : Builtin.List.listFitsIndex i = true := by
    unfold Builtin.List.listFitsIndex
    simp only [Bool.and_eq_true, decide_eq_true_eq]
    (first | lia | omega)
  refine call_meets PySem.F.slot_list_insert ⟨_, e, rfl⟩ PySem.F.entry_list_insert (PySem.F.args_list_insert_3 _ _ _) (PySem.AutoSeq1.list_insert_list_int_val_1 l its.toArray n i t u (by simp [hf]) (by rw [List.size_toArray]; (first | lia | omega))) ⟨e, ?_⟩
  refine ⟨.non, _, I.lset (its' := its.take i.toNat ++ u :: its.drop i.toNat) hH e ?_ ((r.take _).append (.cons ru (r.drop _))) ?_, rfl, q⟩
  · have hk : (if i < 0 then (i + ((its.toArray.size : Nat) : Int)).toNat else min i.toNat its.toArray.size) = i.toNat := by
      rw [if_neg (by (first | lia | omega)), List.size_toArray]
      (first | lia | omega)
    dsimp only
    rw [hk]
    apply Array.ext'
    simp
    exact List.take_of_length_le (by simp)
  · simp only [List.length_append, List.length_cons, List.length_take, List.length_drop]
    (first | lia | omega)

theorem call_sum (hc : X.calm = true) : CallR X (.builtin "sum") (fun xs H Q => ∃ (p : Addr) (ns : List Int), xs = [.ref p] ∧ SqL X.K H p (ns.map V.int) ∧ Q (.int ns.sum) H) := by
  intro pins s σ H xs us Q I r h
  obtain ⟨p, ns, rfl, hq, q⟩ := h
  obtain ⟨u, rfl, rx⟩ := vals1 r
  cases rx
  obtain ⟨its, rv, pl, hz⟩ := I.list hq
  have hi := intsAre_of rv
  obtain ⟨xs', hx⟩ := hi.allInts.items
  have hl' : s.heap.IsList p (intItems xs') := hx ▸ pl.isList
  refine sum_intListG (I.ok.hd hc) hl' fun h' tk t' hk => ?_
  have e1 : ns = xs'.toList.map (·.1) := by
    rw [← nums_intItems, ← hx]
    exact (show numsOf its.toArray.toList = ns from hi.numsOf).symm
  have e2 : preSum (numAt xs') xs'.size = ns.sum := by
    rw [preSum_eq, List.take_of_length_le (by simp), e1]
  rw [e2]
  exact ⟨.int ns.sum, H, I.kept hk, ⟨_, rfl⟩, q⟩
theorem bools_of {bs : List Bool} : ∀ {us : List Value}, Vals (bs.map V.bl) us → ∀ (i : Nat) v, us[i]? = some v → ∃ b, bs[i]? = some b ∧ v = .bool b := by
  intro us r i v e
  have hl := r.length
  have hi : i < us.length := (List.getElem?_eq_some_iff.mp e).1
  rw [List.length_map] at hl
  have hb : bs[i]? = some bs[i] := List.getElem?_eq_getElem (by (first | lia | omega))
  obtain ⟨u, e2, ru⟩ := r.get (i := i) (x := V.bl bs[i]) (by rw [List.getElem?_map, hb]; rfl)
  rw [e] at e2
  cases e2
  exact ⟨_, hb, ru⟩
theorem range_all_bs (bs : List Bool) : ((List.range bs.length).all fun i => (bs[i]?).getD true) = bs.all id := by
  rw [Bool.eq_iff_iff, List.all_eq_true, List.all_eq_true]
  constructor
  · intro h b hb
    obtain ⟨i, hi, rfl⟩ := List.getElem_of_mem hb
    have := h i (List.mem_range.mpr hi)
    simpa [List.getElem?_eq_getElem hi] using this
  · intro h i hi
    have hi' := List.mem_range.mp hi
    simpa [List.getElem?_eq_getElem hi'] using h _ (List.getElem_mem hi')
theorem iter_kept {s : Shared} {h' : Heap} {o : Obj} (hk : ∀ b x, b ∉ [s.heap.objs.size] → (s.heap.push o).get? b = some x → h'.get? b = some x) : ∀ b x, s.heap.get? b = some x → h'.get? b = some x :=
  fun b x e => hk b x (fun hm => by rw [List.mem_singleton.mp hm] at e; exact Nat.lt_irrefl _ (Heap.lt_size e)) (Heap.get?_push_of_some _ e)
theorem call_all (hc : X.calm = true) : CallR X (.builtin "all") (fun xs H Q => ∃ (p : Addr) (bs : List Bool), xs = [.ref p] ∧ SqL X.K H p (bs.map V.bl) ∧ Q (.bl (bs.all id)) H) := by
  intro pins s σ H xs us Q I r h
  obtain ⟨p, bs, rfl, hq, q⟩ := h
  obtain ⟨u, rfl, rx⟩ := vals1 r
  cases rx
  obtain ⟨its, rv, pl, hz⟩ := I.list hq
  have hl := pl.isList
  have hlt : p < s.heap.objs.size := by obtain ⟨_, e, _⟩ := hl; exact Heap.lt_size e
  have hlen : bs.length = its.length := by have := rv.length; rw [List.length_map] at this; exact this
  refine call_all_walk (wpAny_pyIter_list hl ?_)
  refine ⟨s.heap.objs.size, [s.heap.objs.size, p], [s.heap.objs.size], its.toArray.size, _, _, fun i => (bs[i]?).getD true, rfl, Walks.list (A := X.A.in1) (I.ok.hd hc) _ p (Nat.ne_of_lt hlt) its.toArray,
    ⟨⟨_, Heap.get?_push_size _ rfl, rfl, rfl⟩, hl.push _⟩, fun i v s' Q' E' hP hQ => ?_, fun h' tk hk => ?_⟩
  · obtain ⟨b, e, rfl⟩ := bools_of rv i v (by simpa using hP)
    simp only [e, Option.getD_some] at hQ
    exact wpAny_truthy_bool hQ
  · have e : ((List.range its.toArray.size).all fun i => (bs[i]?).getD true) = bs.all id := by
      rw [List.size_toArray, ← hlen]; exact range_all_bs bs
    rw [e]
    exact ⟨.bl _, H, I.kept (iter_kept hk), rfl, q⟩
def DEq (K : PySem.W.Frag) (H : Hp) : Nat → V → V → Prop
  | 0, x, y => flatV x = true ∧ flatV y = true ∧ eqV x y = true
  | n + 1, x, y => ∃ a b xs ys, x = .ref a ∧ y = .ref b ∧ SqL K H a xs ∧ SqL K H b ys ∧ xs.length = ys.length ∧ ∀ (i : Nat) u v, xs[i]? = some u → ys[i]? = some v → DEq K H n u v
theorem all_true (n : Nat) : ((List.range n).all fun _ => true) = true := by simp
theorem deq_at {pins : List (Addr × Obj)} {σ : St} {H : Hp} {s : Shared} (I : Inv X pins σ H s) : ∀ (n : Nat) (A : Around) {x y : V} {u v : Value}, A.units + n < cLine → RelV x u → RelV y v → DEq X.K H n x y → SeqAt.EqAt A s u v true
  | 0, A, x, y, u, v, _, rx, ry, ⟨h1, h2, h3⟩ => by
    have := eqAt_V (A := A) (s := s) rx ry h1 h2
    rw [h3] at this
    exact this
  | n + 1, A, x, y, u, v, hu, rx, ry, ⟨a, b, xs, ys, ex, ey, ha, hb, hl, he⟩ => by
    subst ex ey
    cases rx
    cases ry
    by_cases hab : a = b
    · subst hab
      exact SeqAt.EqAt.same _
    · obtain ⟨its, rv, pl, hz⟩ := I.list ha
      obtain ⟨its2, rv2, pl2, hz2⟩ := I.list hb
      have l1 := rv.length
      have l2 := rv2.length
      have q := SeqAt.RcAt.lists (A := A) (s := s) (e := fun _ => true) pl.isList pl2.isList (by simp only [List.size_toArray]; (first | lia | omega)) (by (first | lia | omega)) (fun j h1 h2 => by
        simp only [List.size_toArray] at h1 h2
        obtain ⟨w1, e1, r1⟩ := rv.get (List.getElem?_eq_getElem (l := xs) (i := j) (by (first | lia | omega)))
        obtain ⟨w2, e2, r2⟩ := rv2.get (List.getElem?_eq_getElem (l := ys) (i := j) (by (first | lia | omega)))
        have f1 : its.toArray[j] = w1 := by
          rw [List.getElem?_eq_getElem h1] at e1
          simpa using Option.some.inj e1
        have f2 : its2.toArray[j] = w2 := by
          rw [List.getElem?_eq_getElem h2] at e2
          simpa using Option.some.inj e2
        rw [f1, f2]
        exact deq_at I n A.in1 (by show A.units + 1 + n < cLine; (first | lia | omega)) r1 r2 (he j _ _ (List.getElem?_eq_getElem (by (first | lia | omega))) (List.getElem?_eq_getElem (by (first | lia | omega)))))
      rw [all_true] at q
      exact SeqAt.EqAt.of_refs hab q
def rAlike (K : PySem.W.Frag) (n : Nat) (b : Bool) : R2 := fun x y H Q => DEq K H (n + 1) x y ∧ Q (.bl b) H
theorem alike_items {pins : List (Addr × Obj)} {σ : St} {H : Hp} {s : Shared} (I : Inv X pins σ H s) {n : Nat} {A : Around} (hu : A.units + (n + 1) < cLine) {xs ys : List V} {its its2 : List Value} (rv : Vals xs its) (rv2 : Vals ys its2) (hl : xs.length = ys.length)
    (he : ∀ (i : Nat) u v, xs[i]? = some u → ys[i]? = some v → DEq X.K H n u v) : ∀ j (h1 : j < its.toArray.size) (h2 : j < its2.toArray.size), SeqAt.EqAt A.in1 s its.toArray[j] its2.toArray[j] true := fun j h1 h2 => by
  have l1 := rv.length
  have l2 := rv2.length
  simp only [List.size_toArray] at h1 h2
  obtain ⟨w1, e1, r1⟩ := rv.get (List.getElem?_eq_getElem (l := xs) (i := j) (by (first | lia | omega)))
  obtain ⟨w2, e2, r2⟩ := rv2.get (List.getElem?_eq_getElem (l := ys) (i := j) (by (first | lia | omega)))
  have f1 : its.toArray[j] = w1 := by
    rw [List.getElem?_eq_getElem h1] at e1
    simpa using Option.some.inj e1
  have f2 : its2.toArray[j] = w2 := by
    rw [List.getElem?_eq_getElem h2] at e2
    simpa using Option.some.inj e2
  rw [f1, f2]
  exact deq_at I n A.in1 (by show A.units + 1 + n < cLine; (first | lia | omega)) r1 r2 (he j _ _ (List.getElem?_eq_getElem (by (first | lia | omega))) (List.getElem?_eq_getElem (by (first | lia | omega))))
theorem op_neL (n : Nat) (hu : X.A.units + (n + 1) < cLine) : OpR X (compareOp .NotEq) (rAlike X.K n false) := by
  intro pins s σ H x y v u Q I rx ry h
  obtain ⟨⟨a, b, xs, ys, ex, ey, ha, hb, hl, he⟩, q⟩ := h
  subst ex ey
  cases rx
  cases ry
  obtain ⟨its, rv, pl, hz⟩ := I.list ha
  obtain ⟨its2, rv2, pl2, hz2⟩ := I.list hb
  have l1 := rv.length
  have l2 := rv2.length
  have r := SeqAt.RcNeAt.lists (A := X.A) (s := s) (e := fun _ => true) pl.isList pl2.isList (by simp only [List.size_toArray]; (first | lia | omega)) (by (first | lia | omega)) (alike_items I hu rv rv2 hl he)
  rw [all_true] at r
  exact r X.prog X.w X.xe _ ⟨.bl false, H, I, rfl, q⟩

def Itv (K : PySem.W.Frag) (a : Addr) (xs : List V) : It :=
  ⟨fun i H => i < xs.length ∧ SqL K H a xs, fun i H x H' => H' = H ∧ xs.reverse[i]? = some x, fun i _ => i = xs.length⟩
theorem turn_rev {P : Program} {w : World} {K : PySem.W.Frag} {tg : Expr} (a it : Addr) (xs : List V) : Turn P w K tg (Itv K a xs) [it] it (fun i h => h.IsRevIter it a ((xs.length : Int) - 1 - (i : Int))) where
  mem := by simp
  obj := fun i h st b hb => by
    have e : b = it := by simpa using hb
    subst e
    obtain ⟨o, e, c, d⟩ := st
    exact ⟨o, e, fun v z => by rw [d] at z; cases z⟩
  keep := fun i h h' st k => st.at fun o e => k it (by simp) o e
  item := by
    intro X hP hw hK hc i pins s σ H E I hf st hg
    subst hP hw hK
    obtain ⟨hi, hq⟩ := hg
    obtain ⟨its, rv, p, hz⟩ := I.list hq
    have hl := rv.length
    obtain ⟨u, hu, ru⟩ := rv.get (List.getElem?_eq_getElem (l := xs) (i := xs.length - 1 - i) (by (first | lia | omega)))
    obtain ⟨f0, f1, f2, f3, f4, f5⟩ := hf it (by simp)
    have e : (xs.length : Int) - 1 - (i : Int) = ((xs.length - 1 - i : Nat) : Int) := by (first | lia | omega)
    have st0 := st
    rw [e] at st0
    refine wpAny_pyNext_rev_item st0 p.isList (x := u) (by simpa using hu) fun h' st' sb => ?_
    have I1 : Inv X pins σ H { s with heap := h' } := I.turned (t' := s.toks) (fun b o hb e => (sb.2 b hb).trans e) f0 f1 f3 f4 f5
    have e2 : ((xs.length - 1 - i : Nat) : Int) - 1 = (xs.length : Int) - 1 - ((i + 1 : Nat) : Int) := by (first | lia | omega)
    rw [e2] at st'
    obtain ⟨o, e, c, d⟩ := id st'
    refine ⟨u, rfl, go_of (s := { s with heap := h' }) e c d (by decide) ⟨_, H, I1, ru, ⟨rfl, ?_⟩, st', fun b hb => (hf b hb).1⟩⟩
    rw [List.getElem?_reverse hi, List.getElem?_eq_getElem (by (first | lia | omega))]
  done := by
    intro X hP hw hK hc i pins s σ H E I hf st hg
    subst hP hw hK
    have hg' : i = xs.length := hg
    subst hg'
    obtain ⟨f0, f1, f2, f3, f4, f5⟩ := hf it (by simp)
    have e : (xs.length : Int) - 1 - (xs.length : Int) = -1 := by (first | lia | omega)
    have st0 := st
    rw [e] at st0
    exact wpAny_pyNext_rev_end (I.ok.hd hc) st0 fun h' eb => ⟨rfl, I.turned (t' := s.toks) (fun b o hb e => eb b o hb e) f0 f1 f3 f4 f5⟩
  self := fun _ _ _ _ _ st h => wpAny_pyIter_revIter st h
def iRev (K : PySem.W.Frag) (ta : TA) : TI := fun σ H R => ta σ H fun vs H1 => ∃ a xs, vs = [.ref a] ∧ SqL K H1 a xs ∧ R (Itv K a xs) H1
theorem pi_rev {tg a : Expr} {ta : TA} {p pos : Pos} (hg : Gl X "reversed") (hm : X.mg "reversed" = none) (ha : PA X [a] ta) (hs : starEach [a] X.env = [(false, eval a X.env)] := by rfl) : PI X tg (.Call (.Name "reversed" p) [a] [] pos) (iRev X.K ta) := by
  intro pins s σ H R I h
  refine Call_ (ld_blt I hg hm boot_reversed (PyProof.Rows.callWith_type1 (thn (ha pos pins s σ H _ I h) fun us s1 ⟨vs, H1, I1, r1, q1⟩ => ?_) hs rfl))
  obtain ⟨l, xs, e, hq, q⟩ := q1
  subst e
  obtain ⟨u, rfl, ru⟩ := vals1 r1
  cases ru
  obtain ⟨its, rv, pl, hz⟩ := I1.list hq
  have hl := rv.length
  refine call_reversed_list pl.isList ?_
  have st : (s1.heap.push (revObj l ((its.toArray.size : Int) - 1))).IsRevIter s1.heap.objs.size l ((xs.length : Int) - 1 - ((0 : Nat) : Int)) := by
    have e : (xs.length : Int) - 1 - ((0 : Nat) : Int) = (its.toArray.size : Int) - 1 := by simp only [List.size_toArray]; (first | lia | omega)
    rw [e]
    exact ⟨_, Heap.get?_push_size _ rfl, rfl, rfl⟩
  refine wpAny_pyIter_revIter (s := { s1 with heap := s1.heap.push (revObj l ((its.toArray.size : Int) - 1)) }) st ?_
  refine ⟨s1.heap.objs.size, [s1.heap.objs.size], _, _, H1, rfl, I1.kept (t' := s1.toks) fun b o e => Heap.get?_push_of_some _ e, turn_rev l _ xs, st, fun b hb => ?_, q⟩
  have e : b = s1.heap.objs.size := by simpa using hb
  subst e
  exact I1.fpOk (Nat.le_refl _) (I1.hok.fresh (Nat.le_refl _))
end
structure Wk (J : It) (xs : List V) (H : Hp) : Prop where
  go : ∀ i H3, Same H H3 → i < xs.length → J.go i H3
  yl : ∀ i H3 x H', Same H H3 → i < xs.length → J.yld i H3 x H' → H' = H3 ∧ xs[i]? = some x
  st : ∀ H3, Same H H3 → J.stop xs.length H3
theorem wk_list {K : PySem.W.Frag} {a : Addr} {xs : List V} {H : Hp} (h : SqL K H a xs) : Wk (Itl K a) xs H where
  go := fun i H3 s hi => ⟨xs, xs[i], s.seq h, List.getElem?_eq_getElem hi⟩
  yl := fun i H3 x H' s hi y => ⟨y.1, y.2 xs (s.seq h)⟩
  st := fun H3 s => ⟨xs, s.seq h, Nat.le_refl _⟩
theorem wk_rev {K : PySem.W.Frag} {a : Addr} {xs : List V} {H : Hp} (h : SqL K H a xs) : Wk (Itv K a xs) xs.reverse H where
  go := fun i H3 s hi => ⟨by simpa using hi, s.seq h⟩
  yl := fun i H3 x H' s hi y => y
  st := fun H3 s => by show xs.reverse.length = xs.length; simp
theorem wk_range {lo : Int} {n : Nat} {H : Hp} : Wk (Itr lo n) ((List.range n).map fun (i : Nat) => V.int (lo + (i : Int))) H where
  go := fun i H3 s hi => by show i < n; simpa using hi
  yl := fun i H3 x H' s hi y => ⟨y.1, by
    have hi' : i < n := by simpa using hi
    rw [y.2, List.getElem?_map, List.getElem?_range hi']
    rfl⟩
  st := fun H3 s => by show n ≤ _; simp
/-- each item's value is told, the heap stays -/
theorem comp_pure {J : It} {xs ys : List V} {σ' : St} {j : Nat} {te : TE} {Q : VK} {H : Hp} (W : Wk J xs H) (hz : xs.length ≤ sizeLine) (hl : ys.length = xs.length)
    (hs : ∀ (i : Nat) x y, xs[i]? = some x → ys[i]? = some y → ∀ Q' : VK, Q' y H → te (σ'.set j (some x)) H Q') (hd : ∀ D, H D = none → Q (.ref D) (upd H D (.lst ys))) : CompW σ' j tYes te Q J H := by
  refine ⟨fun i m zs H3 => m = xs.length - i ∧ i ≤ xs.length ∧ H3 = H ∧ zs = ys.take i, ⟨xs.length, by simp, Nat.zero_le _, rfl, by simp⟩, ?_⟩
  rintro i m zs H3 ⟨rfl, hi, rfl, rfl⟩
  by_cases hlt : i < xs.length
  · refine .inr ⟨W.go i _ (Same.refl _) hlt, by rw [List.length_take]; (first | lia | omega), fun zs' H' => H' = H3 ∧ zs' = ys.take (i + 1), fun zs' H' p => ⟨xs.length - (i + 1), by (first | lia | omega), rfl, hlt, p.1, p.2⟩, fun x H' y => ?_⟩
    obtain ⟨e, ex⟩ := W.yl i _ x H' (Same.refl _) hlt y
    subst e
    unfold tYes
    dsimp only
    rw [if_pos rfl]
    have hy : ys[i]? = some (ys[i]'(by (first | lia | omega))) := List.getElem?_eq_getElem _
    refine hs i x _ ex hy _ ⟨rfl, ?_⟩
    rw [List.take_add_one, hy]
    rfl
  · have e : i = xs.length := by (first | lia | omega)
    subst e
    refine .inl ⟨W.st _ (Same.refl _), ?_⟩
    rw [List.take_of_length_le (by (first | lia | omega))]
    exact hd
/-- each item's value is a new list -/
theorem comp_news {J : It} {xs : List V} {ls : List (List V)} {σ' : St} {j : Nat} {te : TE} {Q : VK} {H : Hp} (W : Wk J xs H) (hz : xs.length ≤ sizeLine) (hl : ls.length = xs.length)
    (hs : ∀ (i : Nat) x l H3, xs[i]? = some x → ls[i]? = some l → Same H H3 → ∀ Q' : VK, (∀ D, H3 D = none → Q' (.ref D) (upd H3 D (.lst l))) → te (σ'.set j (some x)) H3 Q')
    (hd : ∀ (as : List Addr) H', Same H H' → as.length = ls.length → as.Nodup → (∀ b ∈ as, H b = none) → (∀ (i : Nat) a l, as[i]? = some a → ls[i]? = some l → H' a = some (.lst l)) → ∀ D, H' D = none → Q (.ref D) (upd H' D (.lst (as.map V.ref)))) : CompW σ' j tYes te Q J H := by
  refine ⟨fun i m zs H3 => m = xs.length - i ∧ i ≤ xs.length ∧ ∃ as : List Addr, zs = as.map V.ref ∧ as.length = i ∧ Same H H3 ∧ as.Nodup ∧ (∀ b ∈ as, H b = none) ∧ (∀ b ∈ as, ∃ o, H3 b = some o) ∧ ∀ (k : Nat) a l, as[k]? = some a → ls[k]? = some l → H3 a = some (.lst l),
    ⟨xs.length, by simp, Nat.zero_le _, [], rfl, rfl, Same.refl _, List.nodup_nil, (fun _ h => by cases h), (fun _ h => by cases h), fun k a l e => by simp at e⟩, ?_⟩
  rintro i m zs H3 ⟨rfl, hi, as, rfl, hlen, sm, nd, fr, there, hrow⟩
  by_cases hlt : i < xs.length
  · refine .inr ⟨W.go i _ sm hlt, by rw [List.length_map]; (first | lia | omega), _, fun zs' H' p => ⟨xs.length - (i + 1), by (first | lia | omega), rfl, hlt, p⟩, fun x H' y => ?_⟩
    obtain ⟨e, ex⟩ := W.yl i _ x H' sm hlt y
    subst e
    unfold tYes
    dsimp only
    rw [if_pos rfl]
    have hy : ls[i]? = some (ls[i]'(by (first | lia | omega))) := List.getElem?_eq_getElem _
    refine hs i x _ H' ex hy sm _ fun D hD => ?_
    have nD : D ∉ as := fun z => by
      obtain ⟨o, e⟩ := there D z
      rw [hD] at e
      cases e
    refine ⟨as ++ [D], by rw [List.map_append]; rfl, by rw [List.length_append, List.length_singleton]; (first | lia | omega), fun b o e => ?_, ?_, fun b hb => ?_, fun b hb => ?_, fun k a l e1 e2 => ?_⟩
    · have q := sm b o e
      rw [upd_ne (ne_of_none q hD)]
      exact q
    · rw [List.nodup_append]
      refine ⟨nd, by simp, fun x hx y hy => ?_⟩
      rw [List.mem_singleton.mp hy]
      intro z
      exact nD (by rw [← z]; exact hx)
    · rcases List.mem_append.mp hb with z | z
      · exact fr b z
      · rw [List.mem_singleton.mp z]
        exact sm.free hD
    · rcases List.mem_append.mp hb with z | z
      · obtain ⟨o, e⟩ := there b z
        exact ⟨o, by rw [upd_ne (ne_of_none e hD)]; exact e⟩
      · rw [List.mem_singleton.mp z]
        exact ⟨_, upd_same⟩
    · by_cases hk : k < as.length
      · rw [List.getElem?_append_left hk] at e1
        have q := hrow k a l e1 e2
        rw [upd_ne (ne_of_none q hD)]
        exact q
      · rw [List.getElem?_append_right (by (first | lia | omega))] at e1
        cases q : k - as.length with
        | zero =>
          rw [q] at e1
          have ea : D = a := by simpa using e1
          subst ea
          have ek : k = i := by (first | lia | omega)
          subst ek
          rw [hy] at e2
          cases e2
          exact upd_same
        | succ n =>
          rw [q] at e1
          simp at e1
  · have e : i = xs.length := by (first | lia | omega)
    subst e
    exact .inl ⟨W.st _ sm, hd as H3 sm (by (first | lia | omega)) nd fr hrow⟩

section
variable {X : Cx} {K : PySem.W.Frag}
theorem ix_listK (hK : X.K = K) : IxR X (rIxL K) := hK ▸ ix_list
theorem sl_listK (hK : X.K = K) : SlR X (rSlL K) := hK ▸ sl_list
theorem call_lenK (hK : X.K = K) : CallR X (.builtin "len") (fun xs H Q => ∃ p ys, xs = [.ref p] ∧ (SqL K H p ys ∨ SqT K H p ys) ∧ Q (.int ys.length) H) := hK ▸ call_len_seq
theorem call_listK (hK : X.K = K) : CallR X (.type "list") (fun xs H Q => ∃ p ys, xs = [.ref p] ∧ (SqL K H p ys ∨ SqT K H p ys) ∧ ∀ l, H l = none → Q (.ref l) (upd H l (.lst ys))) := hK ▸ call_list_of
theorem call_isiK (hK : X.K = K) : CallR X (.builtin "isinstance") (rIsi K) := hK ▸ call_isi
theorem call_sumK (hK : X.K = K) (hc : X.calm = true) : CallR X (.builtin "sum") (fun xs H Q => ∃ (p : Addr) (ns : List Int), xs = [.ref p] ∧ SqL K H p (ns.map V.int) ∧ Q (.int ns.sum) H) := hK ▸ call_sum hc
theorem call_allK (hK : X.K = K) (hc : X.calm = true) : CallR X (.builtin "all") (fun xs H Q => ∃ (p : Addr) (bs : List Bool), xs = [.ref p] ∧ SqL K H p (bs.map V.bl) ∧ Q (.bl (bs.all id)) H) := hK ▸ call_all hc
theorem op_neLK (n : Nat) (hK : X.K = K) (hu : X.A.units + (n + 1) < cLine) : OpR X (compareOp .NotEq) (rAlike K n false) := hK ▸ op_neL n hu
theorem pi_listK {tg l : Expr} {tl : TE} (hK : X.K = K) (hl : PE X l tl) : PI X tg l (iList K tl) := hK ▸ pi_list hl
theorem pi_revK {tg a : Expr} {ta : TA} {p pos : Pos} (hK : X.K = K) (hg : Gl X "reversed") (hm : X.mg "reversed" = none) (ha : PA X [a] ta) (hs : starEach [a] X.env = [(false, eval a X.env)] := by rfl) : PI X tg (.Call (.Name "reversed" p) [a] [] pos) (iRev K ta) := hK ▸ pi_rev hg hm ha hs
theorem pe_fldK {e : Expr} {ta : TE} {f : Str} {pos : Pos} (hK : X.K = K) (he : PE X e ta) (hb : attributeBase e f X.env (eval e X.env) = eval e X.env) : PE X (.Attribute e f pos) (tFld K ta f) := hK ▸ pe_fld he hb
theorem ps_fldK {o value : Expr} {f : Str} {pos pos' : Pos} {ta tv : TE} (hK : X.K = K) (ha : PE X o ta) (hv : PE X value tv) (hs : swapsWith value (some (.Attribute o f pos')) pos.line X.env = pure false) : PS X (.Assign [.Attribute o f pos'] value pos) (sFld K ta tv f) := hK ▸ ps_fld ha hv hs
end
end L2

set_option Elab.async false
set_option linter.all false
set_option maxRecDepth 100000
set_option maxHeartbeats 4000000
namespace L2
open PySem PySem.Spec PyProof.Rows

structure XB (P : Program) (w : World) (outer : List Env) (H : Hp) (s : Shared) (B : Heap) (H' : Hp) : Prop where
  hok : HOk P w H' B
  keep : ∀ b o, s.heap.get? b = some o → H b = none → b ∉ frs outer → B.get? b = some o
  free : ∀ b o, s.heap.get? b = some o → H b = none → H' b = none
  there : ∀ b o, s.heap.get? b = some o → b ∉ frs outer → ∃ o', B.get? b = some o'
  tups : ∀ b xs, H b = some (.tup xs) → H' b = some (.tup xs)
  frzs : ∀ b o u, H b = some (.frz o u) → H' b = some (.frz o u)
  tbls : ∀ b ps, H b = some (.tbl ps) → ∃ more, H' b = some (.tbl (ps ++ more))
def SlotsUp (outer : List Env) (H : Hp) (h h' : Heap) : Prop := ∀ b o, h.get? b = some o → H b = none → b ∈ frs outer → ∃ sl, h'.get? b = some { o with slots := sl }
theorem XB.un {P : Program} {w : World} {outer : List Env} {H H' : Hp} {s : Shared} {B h : Heap} (x : XB P w outer H s B H') (hB : B.StaysIn h) (hs : SlotsUp outer H s.heap h) (hf : ∀ b ∈ frs outer, H b = none) : Un (frs outer) [] H H' s.heap h where
  keep := fun b o e n hb _ => hB b o (x.keep b o e n hb)
  slot := fun b o e n hb _ => hs b o e n hb
  free := fun b o e n _ => x.free b o e n
  there := fun b o e _ => by
    by_cases hb : b ∈ frs outer
    · obtain ⟨sl, q⟩ := hs b o e (hf b hb) hb
      exact ⟨_, q⟩
    · obtain ⟨o', q⟩ := x.there b o e hb
      exact ⟨o', hB b o' q⟩
  tups := x.tups
  frzs := x.frzs
  tbls := x.tbls
/-- how an exception lies behind a call -/
def CX1 (P : Program) (w : World) : CXT := fun outer H s E ev s' => ∃ (e : Addr) (cls a0 : Value) (B : Heap) (H' : Hp), ev = .ref e ∧ s'.os = s.os ∧ AllBare s'.gens ∧ XB P w outer H s B H' ∧ SlotsUp outer H s.heap s'.heap ∧ Heap.FlyingW B outer e cls a0 s'.heap ∧ E cls none H'
theorem passE0 {P : Program} {w : World} {X : Cx} : Passes (CX1 P w) X E0 := fun _ _ _ _ _ _ _ ⟨_, _, _, _, _, _, _, _, _, _, _, h⟩ => h.elim

section
variable {P : Program} {w : World} {K : PySem.W.Frag} {mg : Str → Option Value} {base : Heap} {N : List Str} {qual : Str} {scope : Scope} {f : Addr} {cd : Value} {A : Around} {outer : List Env} {s₀ : Shared} {H₀ : Hp} {E : XK}
/-- a callee's exception goes on through this frame -/
theorem passX : Passes (CX1 P w) (cxOf (CX1 P w) P w K mg base N qual scope f cd A outer s₀ H₀ E) E := by
  intro pins σ H s ev s' I h
  obtain ⟨e, cls, a0, B, H', rfl, os, bare, xb, sl, fl, q⟩ := h
  have ne : ∀ b o, s₀.heap.get? b = some o → b ≠ s₀.heap.objs.size := fun b o e => Nat.ne_of_lt (Heap.lt_size e)
  have nf : ∀ b, b ∉ frs outer → b ≠ s₀.heap.objs.size → b ∉ frs (envOfC qual scope s₀.heap.objs.size f cd :: outer) := fun b h1 h2 z => by
    rcases List.mem_cons.mp (I.stkSub b z) with y | y
    · exact h2 y
    · exact h1 y
  refine wpAny_leaves_onW I.ok.frames rfl fl fun h'' fl' up => ?_
  refine ⟨e, cls, a0, B, H', rfl, os.trans I.os, bare, ⟨xb.hok, fun b o q n hb => ?_, fun b o q n => ?_, fun b o q hb => ?_, fun b xs q => xb.tups b xs (I.base.tups b xs q), fun b o u q => xb.frzs b o u (I.base.frzs b o u q), fun b ps q => ?_⟩, fun b o q n hb => ?_, fl', q⟩
  · exact xb.keep b o (I.base.keep b o q n hb (by intro z; cases z)) (I.base.free b o q n (by intro z; cases z)) (nf b hb (ne b o q))
  · obtain ⟨o', q'⟩ := I.base.there b o q (by intro z; cases z)
    exact xb.free b o' q' (I.base.free b o q n (by intro z; cases z))
  · obtain ⟨o', q'⟩ := I.base.there b o q (by intro z; cases z)
    exact xb.there b o' q' (nf b hb (ne b o q))
  · obtain ⟨m1, q1⟩ := I.base.tbls b ps q
    obtain ⟨m2, q2⟩ := xb.tbls b _ q1
    exact ⟨m1 ++ m2, by rw [q2, Array.append_assoc]⟩
  · obtain ⟨s1, q1⟩ := I.base.slot b o q n hb (by intro z; cases z)
    obtain ⟨s2, q2⟩ := sl b _ q1 (I.base.free b o q n (by intro z; cases z)) (by
      show b ∈ frs (envOfC qual scope s₀.heap.objs.size f cd :: outer)
      exact List.mem_cons_of_mem _ hb)
    obtain ⟨_, o2, ho2, hd2⟩ := I.ok.funs.mem hb
    change s₀.heap.get? b = some o2 at ho2
    rw [q] at ho2
    cases ho2
    obtain ⟨s3, q3⟩ := up b _ q2 hd2
    exact ⟨s3, q3⟩
/-- an exception just made leaves this frame -/
theorem raisesX {pins : List (Addr × Obj)} {σ : St} {H : Hp} {s : Shared} {h' : Heap} {e : Addr} {cls : Value} {vs : List Value} (I : Inv (cxOf (CX1 P w) P w K mg base N qual scope f cd A outer s₀ H₀ E) pins σ H s)
    (hx : Heap.MadeExcOf s.heap h' e cls vs) (q : E cls none H) : (cxOf (CX1 P w) P w K mg base N qual scope f cd A outer s₀ H₀ E).xe (.ref e) { s with heap := h' } := by
  have ne : ∀ b o, s₀.heap.get? b = some o → b ≠ s₀.heap.objs.size := fun b o e => Nat.ne_of_lt (Heap.lt_size e)
  have nf : ∀ b, b ∉ frs outer → b ≠ s₀.heap.objs.size → b ∉ frs (envOfC qual scope s₀.heap.objs.size f cd :: outer) := fun b h1 h2 z => by
    rcases List.mem_cons.mp (I.stkSub b z) with y | y
    · exact h2 y
    · exact h1 y
  have tk : ∀ b o, H b = some o → b ∉ frs (envOfC qual scope s₀.heap.objs.size f cd :: outer) := fun b o e z => by
    rw [I.stkFree b z] at e
    cases e
  have hin : ∀ env ∈ (envOfC qual scope s₀.heap.objs.size f cd :: outer), ∀ b, env.frame = some b → b ∈ frs (envOfC qual scope s₀.heap.objs.size f cd :: outer) := fun env he b hb => List.mem_filterMap.mpr ⟨env, he, hb⟩
  show wpAny (model P w) (A.deeper (envOfC qual scope s₀.heap.objs.size f cd)) (leaving (envOfC qual scope s₀.heap.objs.size f cd) (.ref e)) (fun _ s'' => CX1 P w outer H₀ s₀ E (.ref e) s'') (fun e' s'' => CX1 P w outer H₀ s₀ E e' s'') { s with heap := h' }
  refine wpAny_leaves_madeW (base := PySem.W.hideAll s.heap (frs (envOfC qual scope s₀.heap.objs.size f cd :: outer))) (s := { s with heap := h' }) I.ok.frames rfl (fun b o z => PySem.W.of_hideAll _ z) (PySem.W.funFrames_hide I.stack hin) hx fun h'' t fl _ _ up => ?_
  have Bget : ∀ b o, s.heap.get? b = some o → b ∉ frs (envOfC qual scope s₀.heap.objs.size f cd :: outer) → (PySem.W.hideAll s.heap (frs (envOfC qual scope s₀.heap.objs.size f cd :: outer))).get? b = some o := fun b o z hb => PySem.W.hideAll_get _ z hb
  refine ⟨e, cls, _, _, H, rfl, I.os, I.bare, ⟨fun a o z => ?_, fun b o z n hb => ?_, fun b o z n => I.base.free b o z n (by intro y; cases y), fun b o z hb => ?_, I.base.tups, I.base.frzs, I.base.tbls⟩, fun b o z n hb => ?_, fl, q⟩
  · refine (I.hok a o z).stay (fun c v hc y => Bget c v y ?_) (fun _ y => y) fun _ _ y => y
    rcases hc with y' | y'
    · rw [y']; exact tk a o z
    · exact tk c _ y'
  · exact Bget b o (I.base.keep b o z n hb (by intro y; cases y)) (nf b hb (ne b o z))
  · obtain ⟨o', z'⟩ := I.base.there b o z (by intro y; cases y)
    exact ⟨o', Bget b o' z' (nf b hb (ne b o z))⟩
  · obtain ⟨s1, q1⟩ := I.base.slot b o z n hb (by intro y; cases y)
    obtain ⟨_, o2, ho2, hd2⟩ := I.ok.funs.mem hb
    change s₀.heap.get? b = some o2 at ho2
    rw [z] at ho2
    cases ho2
    obtain ⟨s3, q3⟩ := up b _ (hx.keeps b _ q1) hd2
    exact ⟨s3, q3⟩
end

theorem own_obj {K : PySem.W.Frag} {h : Heap} {C : Addr} {bmB : List Value} {newId : String} (X : K.In h) (q : PySem.W.excIn K C bmB newId = true) :
    ∃ bm N nm qn bs hdct sn sub ab col dd k0 k1 k2 k3 k5 mN, h.get? C = some (excClassObj nm qn C N bs bm hdct sn sub ab col dd k0 k1 k2 k3 k5 newId) ∧ h.Ns N mN ∧ mN "__init__" = none ∧ OwnTail h bmB bm := by
  unfold PySem.W.excIn at q
  split at q
  · rename_i dd cd sl ho
    split at q
    · rename_i C' bm k0 k1 k2 k3 n k5 hm hs
      simp only [Bool.and_eq_true, beq_iff_eq, Bool.not_eq_true'] at q
      obtain ⟨⟨⟨⟨⟨e1, e2⟩, hdel⟩, ht⟩, hok⟩, hni⟩ := q
      subst e1 e2
      obtain ⟨nm, bs, mro, ns, qn, hd, sn, sub, ab, col, del⟩ := cd
      dsimp only at hm hdel hok hni
      subst hm hdel
      have es : sl = #[k0, k1, k2, k3, some (.builtin n), k5] := by
        obtain ⟨l⟩ := sl
        simp only at hs
        rw [hs]
      subst es
      exact ⟨bm, ns, nm, qn, bs, hd, sn, sub, ab, col, dd, k0, k1, k2, k3, k5, _, X _ _ ho, .of_isNs (PySem.W.isNs_of_in X hok), PySem.W.nsMap_none_of_in X hok hni, PySem.W.tail_of_in X ht⟩
    · cases q
  · cases q

/-- an error class of the text: under ValueError, at C -/
abbrev vErr : List Value := [.type "ValueError", .type "Exception", .type "BaseException", .type "object"]
structure XCls (K : PySem.W.Frag) (C : Addr) : Prop where
  ex : PySem.W.excIn K C vErr "ValueError.__new__" = true

/-- raise C(..): what is wanted of the exception -/
def Raises (X : Cx) (E : XK) : Prop := ∀ (pins : List (Addr × Obj)) (σ : St) (H : Hp) (s : Shared) (h' : Heap) (e : Addr) (cls : Value) (vs : List Value), Inv X pins σ H s → Heap.MadeExcOf s.heap h' e cls vs → E cls none H → X.xe (.ref e) { s with heap := h' }
def tRaise (C : Addr) (E : XK) (t : TA) : TS := fun _ σ H => t σ H fun vs H1 => vs.length ≤ sizeLine ∧ E (.ref C) none H1
theorem ps_raise {X : Cx} {E : XK} {x : Str} {C : Addr} {e₀ : Expr} {rest : List Expr} {t : TA} {np cpos pos : Pos} (hR : Raises X E) (hc : X.calm = true) (hg : Gl X x) (hm : X.mg x = some (.ref C)) (hC : XCls X.K C) (ha : PA X (e₀ :: rest) t)
    (hd : (x == ("__debug__" : Str)) = false := by decide) (he : starEach (e₀ :: rest) X.env = (false, eval e₀ X.env) :: starEach rest X.env := by rfl) (hpl : (backTo cpos (starEach rest X.env)).any (·.1) = false := by rfl) :
    PS X (.Raise (some (.Call (.Name x np) (e₀ :: rest) [] cpos)) none pos) (tRaise C E t) := by
  intro pins s σ H D I h
  obtain ⟨tl, N, nm, q, bs, hdct, sn, sub, ab, col, dd, k0, k1, k2, k3, k5, mN, hCo, hN, hni, T⟩ := own_obj I.mod.kin hC.ex
  refine wpAny_Raise_call_subT (C := C) (nm := nm) (q := q) (N := N) (bs := bs) (bm := tl) (hdct := hdct) (sn := sn) (sub := sub) (ab := ab) (col := col) (dd := dd) (k0 := k0) (k1 := k1) (k2 := k2) (k3 := k3) (k5 := k5)
    PySem.F.excBase_ValueError (mN := mN) (T.hasType PySem.F.excBase_ValueError.hasBase) (I.ok.hd hc) (by rw [he]; show (false || (backTo cpos (starEach rest X.env)).any (·.1)) = false; rw [hpl]; rfl) hni (ld_glob I hg hm ⟨rfl, ?_⟩ hd)
  have hA := ha cpos pins s σ H _ I h
  rw [he] at hA ⊢
  refine Calls.evalArgs_plain (thn hA fun us s2 ⟨vs, H1, I1, rv, hz, q⟩ => ?_)
  exact ⟨rfl, by rw [← rv.length]; exact hz, I1.bk _ _ hCo, hN.keeps I1.bk, T.keeps I1.bk, fun h' e hx => hR pins σ H1 s2 h' e _ _ I1 hx q⟩

def PJ (X : Cx) (parts : List Expr) (c : St → Hp → Prop) : Prop :=
  ∀ (pins : List (Addr × Obj)) (s : Shared) (σ : St) (H : Hp) (acc : Str) (Q : Str → Shared → Prop), Inv X pins σ H s → c σ H → acc.length + 20000 * parts.length ≤ 1000000 → (∀ x s', x.length ≤ 1000000 → Inv X pins σ H s' → Q x s') → Joins (model X.prog X.w) X.A X.xe (evalEach parts X.env) acc Q s
section
variable {X : Cx}
theorem pj_nil : PJ X [] (fun _ _ => True) := fun _ _ _ _ acc _ I _ hz h => h acc _ (by simp at hz; (first | lia | omega)) I
theorem pj_str {x : Str} {j : Nat} {pos : Pos} {es : List Expr} {c : St → Hp → Prop} (hx : x.length ≤ 20000) (hr : PJ X es c) : PJ X (.Constant (.str x) j pos :: es) c := by
  intro pins s σ H acc Q I hc hz h
  simp only [List.length_cons] at hz
  show wpAny _ _ (eval (.Constant (.str x) j pos) X.env) _ _ s
  refine Calls.Constant_str ⟨x, _, rfl, ?_, hr pins _ σ H _ Q (I.tok _) hc ?_ h⟩
  · rw [strLen_append]
    have := sizeLine_eq
    (first | lia | omega)
  · rw [strLen_append]
    (first | lia | omega)
theorem pj_int {e : Expr} {pos : Pos} {es : List Expr} {te : TE} {c : St → Hp → Prop} (he : PE X e te) (hr : PJ X es c) : PJ X (.FormattedValue e (-1) none pos :: es) (fun σ H => te σ H fun v H1 => ∃ i : Int, v = .int i ∧ i.natAbs.log2 < 1920 ∧ H1 = H ∧ c σ H) := by
  intro pins s σ H acc Q I hc hz h
  simp only [List.length_cons] at hz
  show wpAny _ _ (eval (.FormattedValue e (-1) none pos) X.env) _ _ s
  refine wpAny_FormattedValue_plain (thn (he pins s σ H _ I hc) fun v s1 ⟨x, H1, I1, r1, i, ex, hl, eH, q⟩ => ?_)
  subst ex eH
  obtain ⟨t, rfl⟩ := r1
  have hlen : (Str.ofString (toString i)).length ≤ 20000 := by
    have e := int_text_length_le (k := 1920) (by decide) hl
    rw [PySem.ofString_length]
    (first | lia | omega)
  refine wpAny_formatField_int hl ⟨_, _, rfl, ?_, hr pins _ σ H1 _ Q ((I1.tok _).tok _) q ?_ h⟩
  · rw [strLen_append]
    have := sizeLine_eq
    (first | lia | omega)
  · rw [strLen_append]
    (first | lia | omega)
/-- f'..', two parts and more: some text -/
def tFs (c : St → Hp → Prop) : TE := fun σ H Q => c σ H ∧ ∀ x : Str, Q (.str x) H
theorem pe_fs {v₁ v₂ : Expr} {rest : List Expr} {pos : Pos} {c : St → Hp → Prop} (h : PJ X (v₁ :: v₂ :: rest) c) (hn : (v₁ :: v₂ :: rest).length ≤ 40) : PE X (.JoinedStr (v₁ :: v₂ :: rest) pos) (tFs c) := by
  intro pins s σ H Q I ⟨hc, q⟩
  refine wpAny_JoinedStr (h pins s σ H _ _ I hc ?_ fun x s' hx I' => ⟨?_, .str x, H, I'.tok _, ⟨_, rfl⟩, q x⟩)
  · show 0 + _ ≤ _
    (first | lia | omega)
  · have := sizeLine_eq
    (first | lia | omega)
end

def Fl (X : Cx) (pins : List (Addr × Obj)) (σ : St) (e : Addr) (cls : Value) (H : Hp) (s : Shared) : Prop :=
  ∃ (s0 : Shared) (H0 : Hp) (B : Heap) (a0 : Value), Inv X pins σ H0 s0 ∧ s.os = s0.os ∧ AllBare s.gens ∧ XB X.prog X.w X.stack H0 s0 B H ∧ SlotsUp X.stack H0 s0.heap s.heap ∧ Heap.FlyingW B X.stack e cls a0 s.heap
section
variable {X : Cx} {pins : List (Addr × Obj)} {σ : St} {H : Hp} {s : Shared} {e : Addr} {cls : Value}
theorem Fl.inv (F : Fl X pins σ e cls H s) : Inv X pins σ H s := by
  obtain ⟨s0, H0, B, a0, I, os, bare, xb, sl, fl⟩ := F
  exact I.call' (ch := []) os (xb.un fl.1 sl I.stkFree) (xb.hok.kept fl.1) bare fun b z => by cases z
theorem Fl.there (F : Fl X pins σ e cls H s) : ∃ o, s.heap.get? e = some o ∧ o.cls = cls := by
  obtain ⟨s0, H0, B, a0, I, os, bare, xb, sl, fl⟩ := F
  exact fl.there
theorem SlotsUp.trans {outer : List Env} {H : Hp} {h h1 h2 b : Heap} (x : SlotsUp outer H h h1) (hf : h.FunFrames b outer) (up : h1.UpToSlots h2) : SlotsUp outer H h h2 := fun c o q n hc => by
  obtain ⟨s1, q1⟩ := x c o q n hc
  obtain ⟨_, o2, ho2, hd2⟩ := hf.mem hc
  rw [q] at ho2
  cases ho2
  obtain ⟨s2, q2⟩ := up c _ q1 hd2
  exact ⟨s2, q2⟩
/-- it is noted and lands -/
theorem Fl.land {M : Model} {A : Around} {E : Value → Shared → Prop} {Q : Shared → Prop} (F : Fl X pins σ e cls H s) (hA : A.frames = some X.stack) (hst : X.stack = X.env :: X.outer) (hfr : X.env.frame = some X.env.locals) (h : ∀ s', Fl X pins σ e cls H s' → Q s') :
    wpAny M A (noteFrame (.ref e) X.env) (fun _ s2 => wpAny M A (setFlight (.ref e) none) (fun _ s3 => Q s3) E s2) E s := by
  obtain ⟨s0, H0, B, a0, I, os, bare, xb, sl, fl⟩ := F
  rw [hst] at fl hA
  refine wpAny_looks_onW hA hfr fl fun h4 held up4 => ?_
  refine wpAny_landsW (s := { s with heap := h4 }) held fun h5 fl5 up5 => ?_
  refine h _ ⟨s0, H0, B, a0, I, os, bare, xb, (sl.trans I.stack up4).trans I.stack up5, ?_⟩
  rw [hst]
  exact fl5
/-- it lands again, at its suite -/
theorem Fl.again {M : Model} {A : Around} {E : Value → Shared → Prop} {Q : Unit → Shared → Prop} (F : Fl X pins σ e cls H s) (h : ∀ s', Fl X pins σ e cls H s' → Q () s') : wpAny M A (setFlight (.ref e) none) Q E s := by
  obtain ⟨s0, H0, B, a0, I, os, bare, xb, sl, fl⟩ := F
  refine lands_againW fl fun h6 fl6 up6 => ?_
  exact h _ ⟨s0, H0, B, a0, I, os, bare, xb, sl.trans I.stack up6, fl6⟩
end

def PX (X : Cx) (ex : Expr) (t : XK → TE) : Prop :=
  ∀ (xe : Value → Shared → Prop) (E : XK) (pins : List (Addr × Obj)) (s : Shared) (σ : St) (H : Hp) (Q : VK), Inv X pins σ H s → t E σ H Q → (∀ e cls H' s', Fl X pins σ e cls H' s' → E cls none H' → xe (.ref e) s') →
    wpAny (model X.prog X.w) X.A (eval ex X.env) (EP X pins σ Q) xe s
theorem PA.any {X : Cx} {es : List Expr} {t : TA} (h : PA X.nox es t) {pos : Pos} {pins : List (Addr × Obj)} {s : Shared} {σ : St} {H : Hp} {Q : List V → Hp → Prop} (I : Inv X pins σ H s) (q : t σ H Q) (xe : Value → Shared → Prop) :
    wpAny (model X.prog X.w) X.A (spliced (backTo pos (starEach es X.env))) (AP X pins σ Q) xe s :=
  wpAny_mono (h pos pins s σ H Q (I.wish _) q) (fun us s' ⟨vs, H', I', r⟩ => ⟨vs, H', I'.unwish, r⟩) fun _ _ z => z.elim
section
variable {X : Cx} {k : Nat} {f C : Addr} {fd : FuncData} {ps : List Str} {sp : Sp} {x m : Str} {p pos apos : Pos} {e o : Expr} {es : List Expr} {ta : TE} {t : TA}
theorem runX {pins : List (Addr × Obj)} {σ : St} {H : Hp} {s : Shared} {Q : VK} {us : List Value} {vs : List V} {E : XK} {xe : Value → Shared → Prop} (F : FnOk X.prog X.w X.K X.mg X.base (CX1 X.prog X.w) k f fd ps sp) (hr : Room k X.A) (hb : Binds X.K fd ps [])
    (I : Inv X pins σ H s) (r : Vals vs us) (h : sp vs H Q E) (hx : ∀ e cls H' s', Fl X pins σ e cls H' s' → E cls none H' → xe (.ref e) s') : wpAny (model X.prog X.w) X.A (call (.ref f) us) (EP X pins σ Q) xe s := by
  have hl : (us ++ []).length = ps.length := by rw [List.append_nil, ← r.length]; exact F.len _ _ _ _ h
  have hb' := hb s us I.kIn hl
  rw [List.append_nil] at hb'
  refine wpAny_call (codeAny_mono (F.run X.A X.stack s H ⟨us, []⟩ us vs Q E hr I.env0 hb' r h) fun r s' hq => ?_)
  cases r with
  | error e =>
    obtain ⟨e', cls, a0, B, H', rfl, os, bare, xb, sl, fl, q⟩ := hq
    exact hx e' cls H' s' ⟨s, H, B, a0, I, os, bare, xb, sl, fl⟩ q
  | ok fl =>
    cases fl with
    | ret u => exact I.after hq
    | next => exact False.elim hq
    | brk => exact False.elim hq
    | cont => exact False.elim hq
theorem px_call (F : FnOk X.prog X.w X.K X.mg X.base (CX1 X.prog X.w) k f fd ps sp) (hr : Room k X.A) (hg : Gl X x) (hm : X.mg x = some (.ref f)) (hk : PySem.W.keepIn X.K (.ref f) = true) (hb : Binds X.K fd ps [])
    (ha : PA X.nox (e :: es) t) (hdb : (x == ("__debug__" : Str)) = false := by decide) (he : starEach (e :: es) X.env = (false, eval e X.env) :: starEach es X.env := by rfl) (hpl : (backTo pos (starEach es X.env)).any (·.1) = false := by rfl) :
    PX X (.Call (.Name x p) (e :: es) [] pos) (fun E σ H Q => t σ H fun vs H1 => sp vs H1 Q E) := by
  intro xe E pins s σ H Q I h hx
  refine wpAny_Call_Name_kw (ld_glob I hg hm ?_ hdb)
  refine PySem.W.callWith_K (h₀ := X.base) I.ok.mod.kin hk (thn (ha.any I h xe) fun us s1 ⟨vs, H1, I1, r, q⟩ => ⟨I1.kIn, ?_⟩) he hpl
  exact runX F hr hb I1 r q hx
end

theorem match_other {M : Model} {A : Around} {E : Value → Shared → Prop} {K : PySem.W.Frag} {s : Shared} {e C D : Addr} {o : Obj} {b : Bool} {Q : Bool → Shared → Prop} (X : K.In s.heap) (hD : D ≠ C) (q1 : PySem.W.kitOne K (.ref D) (.ref C) = some b)
    (q2 : PySem.W.kitOne K (.ref C) (.type "BaseException") = some true) (he : s.heap.get? e = some o) (hc : o.cls = .ref D) (hq : Q b s) : wpAny M A (excMatches (.ref e) (.ref C)) Q E s := by
  have n1 : ((Value.ref D == Value.ref C) = true) = False := by
    simp only [eq_iff_iff, iff_false]
    intro z
    exact hD (by have := eq_of_beq z; injection this)
  have n2 : ((Value.ref C == Value.type "BaseException") = true) = False := by
    simp only [eq_iff_iff, iff_false]
    intro z
    have := eq_of_beq z
    cases this
  unfold PySem.W.kitOne at q1 q2
  rw [if_neg (by rw [n1]; exact not_false)] at q1
  rw [if_neg (by rw [n2]; exact not_false)] at q2
  obtain ⟨l1, l2, l3⟩ := PySem.W.kit_cls (M := M) X q1
  obtain ⟨_, _, l4⟩ := PySem.W.kit_cls (M := M) X q2
  have kk : ∀ b o, s.heap.get? b = some o → s.heap.get? b = some o := fun _ _ z => z
  unfold excMatches isInstance isExcClass
  refine wpAny_bind (wpAny_bind (l1 _ _ _ _ kk ?_))
  refine wpAny_of_eq tc_notTuple ?_
  try simp only [Bool.false_eq_true, if_false]
  refine wpAny_bind (wpAny_pure ?_)
  simp only [List.forIn_cons, List.forIn_nil]
  refine wpAny_bind (wpAny_bind (wpAny_bind (wpAny_bind (l2 _ _ _ _ kk ?_))))
  simp only [if_true]
  refine l4 _ _ _ _ kk ?_
  simp only [Bool.not_true, Bool.false_eq_true, if_false]
  refine wpAny_pure (wpAny_pure ?_)
  refine wpAny_bind (wpAny_typeOf_ref he ?_)
  rw [hc]
  refine wpAny_bind (wpAny_bind (wpAny_bind (l3 _ _ _ _ kk ?_)))
  cases b with
  | true => exact wpAny_pure (wpAny_pure (wpAny_pure hq))
  | false => exact wpAny_pure (wpAny_pure (wpAny_pure hq))

section
variable {X : Cx} {k : Nat} {f C : Addr} {fd : FuncData} {ps : List Str} {sp : Sp} {x m : Str} {p pos apos : Pos} {e o : Expr} {es : List Expr} {ta : TE} {t : TA}
end

def XA (X : Cx) (e : Addr) : Cx := { X with A := X.A.mark (some (.ref e)), calm := false, xe := fun _ _ => False }
section
variable {X : Cx} {pins : List (Addr × Obj)} {σ : St} {H : Hp} {s : Shared}
theorem Cx.Ok.caught (ok : X.Ok) (e : Addr) : (XA X e).Ok :=
  ⟨ok.mod, ok.kind, ok.glob, ok.blt, ok.above, ok.inj, ok.has, ok.cab, (fun z => by cases z), ok.frames, ok.stk, ok.exf, ok.bs, ok.bsz, ok.noex, ok.exfs, ok.funs, ok.frf⟩
theorem Inv.caught (I : Inv X pins σ H s) (e : Addr) : Inv (XA X e) pins σ H s := ⟨I.ok.caught e, I.os, I.bare, I.base, I.loc, I.cell, I.free, I.freeC, I.pin, I.hok, I.len⟩
theorem Inv.uncaught {e : Addr} (ok : X.Ok) (I : Inv (XA X e) pins σ H s) : Inv X pins σ H s := ⟨ok, I.os, I.bare, I.base, I.loc, I.cell, I.free, I.freeC, I.pin, I.hok, I.len⟩
theorem SP.uncaught {e : Addr} {D : Ends} {f : Flow} (ok : X.Ok) (h : SP (XA X e) pins D f s) : SP X pins D f s := by
  cases f with
  | next => obtain ⟨σ', H', I, q⟩ := h; exact ⟨σ', H', I.uncaught ok, q⟩
  | brk => obtain ⟨σ', H', I, q⟩ := h; exact ⟨σ', H', I.uncaught ok, q⟩
  | cont => obtain ⟨σ', H', I, q⟩ := h; exact ⟨σ', H', I.uncaught ok, q⟩
  | ret u => obtain ⟨v, σ', H', I, r, q⟩ := h; exact ⟨v, σ', H', I.uncaught ok, r, q⟩
end
/-- the clauses -/
def PH (X : Cx) (hs : List ExceptHandler) (t : Value → TS) : Prop :=
  ∀ (e : Addr) (cls : Value) (pins : List (Addr × Obj)) (s : Shared) (σ : St) (H : Hp) (D : Ends), Fl X pins σ e cls H s → t cls D σ H → wpAny (model X.prog X.w) X.A (handleBy (.ref e) X.env hs) (SP X pins D) X.xe s
section
variable {X : Cx} {x : Str} {C : Addr} {np pos : Pos} {b₀ : Stmt} {suite : List Stmt} {rest : List ExceptHandler} {tb : TS} {tr : Value → TS}
theorem ph_nil : PH X [] (fun _ _ _ _ => False) := fun _ _ _ _ _ _ _ _ h => h.elim
end
/-- try: name = an expression -/
def tTryA (i : Nat) (t : XK → TE) (th : Value → TS) : TS := fun D σ H => ∃ E : XK, (t E σ H fun v H1 => D.nx (σ.set i (some v)) H1) ∧ ∀ cls H', E cls none H' → th cls D σ H'
section
variable {X : Cx} {ex : Expr} {t : XK → TE} {th : Value → TS} {h₀ : ExceptHandler} {hs : List ExceptHandler} {p1 pos : Pos}
theorem ps_tryA {i : Nat} {x : Str} {pos' : Pos} (hst : X.stack = X.env :: X.outer) (hfr : X.env.frame = some X.env.locals) (hN : X.N.Nodup) (hi : X.N[i]? = some x) (hl : Loc X.env.scope x) (hx : PX X ex t) (hh : PH X (h₀ :: hs) th)
    (hsw : swapsWith ex (some (.Name x pos')) p1.line X.env = pure false := by rfl) (hf : X.fn x = true ∨ X.env.scope.names.lookup x = some .local := by first | exact .inl rfl | exact .inr rfl | assumption) :
    PS X (.Try [.Assign [.Name x pos'] ex p1] (h₀ :: hs) [] [] pos) (tTryA i t th) := by
  intro pins s σ H D I ⟨E, h, hE⟩
  refine wpAny_Try_except (wpAny_execs_cons (wpAny_Assign_Name (thn (hx _ E pins s σ H _ I h fun e cls H' s' F q => ?_) fun v s1 ⟨y, H1, I1, r1, q1⟩ => ?_) hsw))
  · exact F.land I.ok.frames hst hfr fun s2 F2 => hh e cls pins s2 σ H' D F2 (hE cls H' q)
  · exact store_ok I1 hN hi hl r1 (fun s2 I2 => wpAny_execs_nil (wpAny_execs_nil ⟨_, H1, I2, q1⟩)) hf
end

section
variable {P : Program} {w : World} {K : PySem.W.Frag} {mg : Str → Option Value} {base : Heap}
theorem Fun.okX {x qual : Str} {st : Stmt} {f : Addr} {fd : FuncData} {N ps : List Str} {k : Nat} {sp : Sp} (F : Fun K x qual st f fd) (S : FnScope N ps (defScope st)) (len : ∀ vs H Q E, sp vs H Q E → vs.length = ps.length)
    (hbody : ∀ (cdv : Value) (A : Around) (outer : List Env) (s : Shared) (H : Hp) (vs : List V) (Q : VK) (E : XK), Room k (A.deeper (envOfC qual (defScope st) s.heap.objs.size f cdv)) → sp vs H Q E →
      ∃ t, PSs (cxOf (CX1 P w) P w K mg base N qual (defScope st) f cdv A outer s H E) (defBody st) t ∧ t { nx := fun _ H' => Q .non H', rt := Q } (start N vs) H) : FnOk P w K mg base (CX1 P w) (k + 1) f fd ps sp := by
  obtain ⟨oc, od, kV, doc, pm, an, cdv, ct, osl, rfl, lk, hcd⟩ := F.ex
  exact fn_of lk hcd S len fun A outer s H vs Q E hr hsp => hbody cdv A outer s H vs Q E hr hsp
theorem raises_cx {N : List Str} {qual : Str} {scope : Scope} {f : Addr} {cd : Value} {A : Around} {outer : List Env} {s : Shared} {H : Hp} {E : XK} : Raises (cxOf (CX1 P w) P w K mg base N qual scope f cd A outer s H E) E :=
  fun _ _ _ _ _ _ _ _ I hx q => raisesX I hx q
/-- a promise that names no exception serves where exceptions may be -/
theorem FnOk.calm {k : Nat} {f : Addr} {fd : FuncData} {ps : List Str} {sp : Sp} (F : FnOk P w K mg base CX0 k f fd ps sp) : FnOk P w K mg base (CX1 P w) k f fd ps sp :=
  ⟨F.len, fun A outer s H args us vs Q E hr he hb hv hs => codeAny_mono (F.run A outer s H args us vs Q E hr he hb hv hs) fun r s' z => by
    cases r with
    | ok fl => cases fl <;> exact z
    | error e => exact False.elim z⟩
end

theorem get_listK {X : Cx} {K : PySem.W.Frag} (hK : X.K = K) : PGet X (rIxL K) := by
  subst hK
  intro pins s σ H o i ov iv Q I ro ri h
  obtain ⟨p, xs, k, z, rfl, rfl, hq, he, q⟩ := h
  cases ro
  obtain ⟨t, rfl⟩ := ri
  obtain ⟨its, r, pl, hz⟩ := I.list hq
  obtain ⟨j, h1, h2, h3, h4, h5⟩ := atI_get he
  obtain ⟨w, ew, rw'⟩ := r.get h2
  have hl := r.length
  have hn := line63
  have fin : EP X pins σ Q w s := ⟨z, H, I, rw', q⟩
  by_cases h0 : 0 ≤ k
  · have hj : k.toNat = j := by
      rw [seqIndex_of h0 h5] at h1
      exact Option.some.inj h1
    exact wpAny_getItem_list pl.isList h0 (by (first | lia | omega)) (by rw [hj]; simpa using ew) fin
  · have hj : (k + (its.toArray.size : Int)).toNat = j := by
      rw [seqIndex_neg (by (first | lia | omega)) h4] at h1
      rw [List.size_toArray, ← hl]
      exact Option.some.inj h1
    exact wpAny_getItem_list_neg pl.isList (by (first | lia | omega)) (by rw [List.size_toArray] <;> (first | lia | omega)) (by (first | lia | omega)) (by rw [hj]; simpa using ew) fin

section
variable {X : Cx} {K : PySem.W.Frag}
end
end L2

set_option Elab.async false
set_option linter.all false
set_option maxRecDepth 100000
set_option maxHeartbeats 4000000
namespace L2
open PySem PySem.Spec PyProof.Rows
section
variable {K : PySem.W.Frag} {x qual : Str} {st : Stmt} {f : Addr} {fd : FuncData}
theorem Fun.binds1 {p0 : Str} (F : Fun K x qual st f fd) (h : ∀ (kV doc pm : Value) (an : Option Addr) (cdv ct : Value) (a0 : Value), bindArgs (PySem.W.fnOf x qual (defArgs st) (defBody st) (defScope st) .none kV doc pm an cdv ct) ⟨[a0], []⟩ = pure (List.zip [p0] [a0])) : Binds K fd [p0] [] :=
  F.binds fun kV doc pm an cdv ct us hl => match us, hl with | [a0], _ => h kV doc pm an cdv ct _
theorem Fun.binds2 {p0 p1 : Str} (F : Fun K x qual st f fd) (h : ∀ (kV doc pm : Value) (an : Option Addr) (cdv ct : Value) (a0 a1 : Value), bindArgs (PySem.W.fnOf x qual (defArgs st) (defBody st) (defScope st) .none kV doc pm an cdv ct) ⟨[a0, a1], []⟩ = pure (List.zip [p0, p1] [a0, a1])) : Binds K fd [p0, p1] [] :=
  F.binds fun kV doc pm an cdv ct us hl => match us, hl with | [a0, a1], _ => h kV doc pm an cdv ct _ _
theorem Fun.binds3 {p0 p1 p2 : Str} (F : Fun K x qual st f fd) (h : ∀ (kV doc pm : Value) (an : Option Addr) (cdv ct : Value) (a0 a1 a2 : Value), bindArgs (PySem.W.fnOf x qual (defArgs st) (defBody st) (defScope st) .none kV doc pm an cdv ct) ⟨[a0, a1, a2], []⟩ = pure (List.zip [p0, p1, p2] [a0, a1, a2])) : Binds K fd [p0, p1, p2] [] :=
  F.binds fun kV doc pm an cdv ct us hl => match us, hl with | [a0, a1, a2], _ => h kV doc pm an cdv ct _ _ _
theorem Fun.binds4 {p0 p1 p2 p3 : Str} (F : Fun K x qual st f fd) (h : ∀ (kV doc pm : Value) (an : Option Addr) (cdv ct : Value) (a0 a1 a2 a3 : Value), bindArgs (PySem.W.fnOf x qual (defArgs st) (defBody st) (defScope st) .none kV doc pm an cdv ct) ⟨[a0, a1, a2, a3], []⟩ = pure (List.zip [p0, p1, p2, p3] [a0, a1, a2, a3])) : Binds K fd [p0, p1, p2, p3] [] :=
  F.binds fun kV doc pm an cdv ct us hl => match us, hl with | [a0, a1, a2, a3], _ => h kV doc pm an cdv ct _ _ _ _
theorem Fun.binds5 {p0 p1 p2 p3 p4 : Str} (F : Fun K x qual st f fd) (h : ∀ (kV doc pm : Value) (an : Option Addr) (cdv ct : Value) (a0 a1 a2 a3 a4 : Value), bindArgs (PySem.W.fnOf x qual (defArgs st) (defBody st) (defScope st) .none kV doc pm an cdv ct) ⟨[a0, a1, a2, a3, a4], []⟩ = pure (List.zip [p0, p1, p2, p3, p4] [a0, a1, a2, a3, a4])) : Binds K fd [p0, p1, p2, p3, p4] [] :=
  F.binds fun kV doc pm an cdv ct us hl => match us, hl with | [a0, a1, a2, a3, a4], _ => h kV doc pm an cdv ct _ _ _ _ _
end
end L2
namespace Com
open PySem L2

theorem same_upd {H H1 : Hp} {b : Addr} {o : HO} (s : Same H H1) (hb : H b = none) : Same H (upd H1 b o) := fun c u e => by
  rw [upd_ne (ne_of_none e hb)]
  exact s c u e
theorem same_new {H : Hp} {b : Addr} {o : HO} (hb : H b = none) : Same H (upd H b o) := same_upd (Same.refl H) hb
/-- a join of ways: what holds ahead of the rest -/
theorem seq_mk {t u : TS} {D : Ends} {σ : St} {H : Hp} (R : St → Hp → Prop) (h1 : ∀ σ' H', R σ' H' → u D σ' H') (h2 : (∀ σ' H', R σ' H' → u D σ' H') → t { D with nx := u D } σ H) : tSeq t u D σ H := h2 h1

/-- a join of ways that ends nowhere else -/
theorem seq_mk' {t u : TS} {D : Ends} {σ : St} {H : Hp} (R : St → Hp → Prop) (h1 : ∀ σ' H', R σ' H' → u D σ' H') (h2 : ∀ D' : Ends, (∀ σ' H', R σ' H' → D'.nx σ' H') → t D' σ H) : tSeq t u D σ H := h2 _ h1
/-- a loop whose body ends nowhere else -/
theorem for_rangeN {lo : Int} {n : Nat} {g : TG} {tb : TS} {D : Ends} {σ : St} {H : Hp} (Pv : Nat → St → Hp → Prop) (h0 : Pv 0 σ H)
    (hs : ∀ i σ H, i < n → Pv i σ H → ∀ D' : Ends, (∀ σ' H', Pv (i + 1) σ' H' → D'.nx σ' H') → g (.int (lo + i)) σ H fun σ2 H2 => tb D' σ2 H2) (hd : ∀ σ H, Pv n σ H → D.nx σ H) :
    ∃ W : Nat → Nat → St → Hp → Prop, (∃ m, W 0 m σ H) ∧ ∀ i m σ H, W i m σ H →
      ((Itr lo n).stop i H ∧ D.nx σ H) ∨ ((Itr lo n).go i H ∧ ∃ N : St → Hp → Prop, (∀ σ' H', N σ' H' → ∃ m', m' < m ∧ W (i + 1) m' σ' H') ∧ ∀ x H', (Itr lo n).yld i H x H' → g x σ H' fun σ2 H2 => tb { D with nx := N, ct := N, bk := D.nx } σ2 H2) :=
  for_range Pv h0 (fun i σ H hi hp => hs i σ H hi hp _ fun _ _ z => z) hd
/-- name = a literal -/
theorem asg_lit {v : V} {u : TS} {i : Nat} {D : Ends} {σ : St} {H : Hp} (h : u D (σ.set i (some v)) H) : tSeq (tAsg (tC v) (gName i)) u D σ H := h

def drawn (ns : List Int) (k many : Int) : Int :=
  ((if 0 < (ns.length : Int) then ns.getD (k % (ns.length : Int)).toNat 0 else 7) * (48271 + 9973 * (k % 97)) + (k + 1) * (k + 3) * 16807 + (ns.length : Int)) % 2147483647 / 16 % many
theorem drawn_nn (ns : List Int) (k : Int) {many : Int} (h : 0 < many) : 0 ≤ drawn ns k many := Int.emod_nonneg _ (by (first | lia | omega))
theorem drawn_lt (ns : List Int) (k : Int) {many : Int} (h : 0 < many) : drawn ns k many < many := Int.emod_lt_of_pos _ h

def RowOk (n : Nat) (r : List Int) : Prop := 1 ≤ r.length ∧ r.length ≤ 8 ∧ ∀ e ∈ r, -1 ≤ e ∧ e < (n : Int)
def Wf (rows : List (List Int)) : Prop := 1 ≤ rows.length ∧ rows.length ≤ 12 ∧ ∀ r ∈ rows, RowOk rows.length r

/-- a list of lists of ints: the list at R, its rows at as -/
structure Mat (H : Hp) (R : Addr) (as : List Addr) (rows : List (List Int)) : Prop where
  hd : H R = some (.lst (as.map V.ref))
  len : as.length = rows.length
  row : ∀ (i : Nat) a r, as[i]? = some a → rows[i]? = some r → H a = some (.lst (r.map V.int))
  nd : (R :: as).Nodup
theorem Mat.same {H H' : Hp} {R : Addr} {as : List Addr} {rows : List (List Int)} (m : Mat H R as rows) (s : Same H H') : Mat H' R as rows :=
  ⟨s _ _ m.hd, m.len, fun i a r e1 e2 => s _ _ (m.row i a r e1 e2), m.nd⟩
theorem Mat.keep {H H' : Hp} {R : Addr} {as : List Addr} {rows : List (List Int)} (m : Mat H R as rows) (k : ∀ b o, b ∈ R :: as → H b = some o → H' b = some o) : Mat H' R as rows :=
  ⟨k _ _ List.mem_cons_self m.hd, m.len, fun i a r e1 e2 => k _ _ (List.mem_cons_of_mem _ (List.mem_of_getElem? e1)) (m.row i a r e1 e2), m.nd⟩
theorem Mat.upd {H : Hp} {R : Addr} {as : List Addr} {rows : List (List Int)} {b : Addr} {o : HO} (m : Mat H R as rows) (hb : b ∉ R :: as) : Mat (upd H b o) R as rows :=
  m.keep fun c u hc e => by
    rw [upd_ne (fun z => hb (by rw [← z]; exact hc))]
    exact e
theorem Mat.new {H : Hp} {R : Addr} (hR : H R = some (.lst [])) : Mat H R [] [] := ⟨hR, rfl, fun i a r e => by simp at e, by simp⟩
theorem Mat.snoc {H : Hp} {R D : Addr} {as : List Addr} {rows : List (List Int)} {r : List Int} (m : Mat H R as rows) (hD : H D = some (.lst (r.map V.int))) (nD : D ∉ R :: as) :
    Mat (L2.upd H R (.lst (as.map V.ref ++ [V.ref D]))) R (as ++ [D]) (rows ++ [r]) := by
  have hR : ∀ a ∈ as, a ≠ R := fun a ha z => by have := (List.nodup_cons.mp m.nd).1; rw [← z] at this; exact this ha
  have hDR : D ≠ R := fun z => nD (by rw [z]; exact List.mem_cons_self)
  refine ⟨by rw [upd_same, List.map_append]; rfl, by simp [m.len], fun i a r' e1 e2 => ?_, ?_⟩
  · by_cases hi : i < as.length
    · rw [List.getElem?_append_left hi] at e1
      rw [List.getElem?_append_left (by rw [← m.len]; exact hi)] at e2
      rw [upd_ne (hR a (List.mem_of_getElem? e1))]
      exact m.row i a r' e1 e2
    · rw [List.getElem?_append_right (by (first | lia | omega))] at e1
      rw [List.getElem?_append_right (by rw [← m.len]; (first | lia | omega))] at e2
      rw [m.len] at e1
      cases q : i - rows.length with
      | zero =>
        rw [q] at e1 e2
        simp at e1 e2
        subst e1 e2
        rw [upd_ne hDR]
        exact hD
      | succ n =>
        rw [q] at e1
        simp at e1
  · have h1 := m.nd
    rw [List.nodup_cons] at h1 ⊢
    refine ⟨fun z => ?_, ?_⟩
    · rcases List.mem_append.mp z with z | z
      · exact h1.1 z
      · exact hDR (List.mem_singleton.mp z).symm
    · rw [List.nodup_append]
      refine ⟨h1.2, by simp, fun x hx y hy => ?_⟩
      rw [List.mem_singleton.mp hy]
      intro z
      exact nD (by rw [← z]; exact List.mem_cons_of_mem _ hx)
theorem Mat.get {H : Hp} {R : Addr} {as : List Addr} {rows : List (List Int)} (m : Mat H R as rows) {i : Nat} (hi : i < rows.length) : ∃ a, as[i]? = some a ∧ H a = some (.lst ((rows[i]).map V.int)) ∧ a ∈ as := by
  have h : i < as.length := by rw [m.len]; exact hi
  exact ⟨as[i], List.getElem?_eq_getElem h, m.row i _ _ (List.getElem?_eq_getElem h) (List.getElem?_eq_getElem hi), List.getElem_mem h⟩
theorem Mat.refs {H : Hp} {R : Addr} {as : List Addr} {rows : List (List Int)} (m : Mat H R as rows) {i : Nat} {x : V} (e : (as.map V.ref)[i]? = some x) : ∃ a, ∃ hi : i < rows.length, x = .ref a ∧ as[i]? = some a ∧ H a = some (.lst ((rows[i]).map V.int)) ∧ a ∈ as := by
  rw [List.getElem?_map] at e
  cases q : as[i]? with
  | none => rw [q] at e; cases e
  | some a =>
    rw [q] at e
    have hi : i < rows.length := by rw [← m.len]; exact (List.getElem?_eq_some_iff.mp q).1
    refine ⟨a, hi, (Option.some.inj e).symm, rfl, m.row i a _ q (List.getElem?_eq_getElem hi), List.mem_of_getElem? q⟩
/-- a row is changed -/
theorem Mat.set {H : Hp} {R a : Addr} {as : List Addr} {rows : List (List Int)} {i : Nat} {r : List Int} (m : Mat H R as rows) (ea : as[i]? = some a) : Mat (L2.upd H a (.lst (r.map V.int))) R as (rows.set i r) := by
  have ha := List.mem_of_getElem? ea
  have h1 := List.nodup_cons.mp m.nd
  have hR : R ≠ a := fun z => h1.1 (by rw [z]; exact ha)
  refine ⟨by rw [upd_ne hR]; exact m.hd, by simp [m.len], fun j b r' e1 e2 => ?_, m.nd⟩
  by_cases hj : i = j
  · subst hj
    rw [ea] at e1
    cases e1
    have hi : i < rows.length := by rw [← m.len]; exact (List.getElem?_eq_some_iff.mp ea).1
    rw [List.getElem?_set_self hi] at e2
    cases e2
    exact upd_same
  · have hb : b ≠ a := fun z => hj (by
      subst z
      obtain ⟨x1, y1⟩ := List.getElem?_eq_some_iff.mp ea
      obtain ⟨x2, y2⟩ := List.getElem?_eq_some_iff.mp e1
      exact (List.getElem_inj h1.2).mp (y1.trans y2.symm))
    rw [List.getElem?_set_ne hj] at e2
    rw [upd_ne hb]
    exact m.row j b r' e1 e2
theorem Mat.sq {K : PySem.W.Frag} {H : Hp} {R : Addr} {as : List Addr} {rows : List (List Int)} (m : Mat H R as rows) : SqL K H R (as.map V.ref) := SqL.of m.hd
theorem Mat.reflen {H : Hp} {R : Addr} {as : List Addr} {rows : List (List Int)} (m : Mat H R as rows) : (as.map V.ref).length = rows.length := by rw [List.length_map, m.len]

structure Brd where
  rows : List (List Int)
  turns : List Int
  loads : List Int
  steps : List Int
  taken : Int
def bflds (aR aT aL aS : Addr) (z : Int) : List (Str × V) := [("rows", .ref aR), ("turns", .ref aT), ("loads", .ref aL), ("steps", .ref aS), ("taken", .int z)]
structure BoardAt (C : Addr) (H : Hp) (p dx aR : Addr) (as : List Addr) (aT aL aS : Addr) (b : Brd) : Prop where
  ob : H p = some (.ins C dx (bflds aR aT aL aS b.taken))
  mat : Mat H aR as b.rows
  hT : H aT = some (.lst (b.turns.map V.int))
  hL : H aL = some (.lst (b.loads.map V.int))
  hS : H aS = some (.lst (b.steps.map V.int))
  nd : (p :: aT :: aL :: aS :: aR :: as).Nodup
theorem BoardAt.keep {C : Addr} {H H' : Hp} {p dx aR : Addr} {as : List Addr} {aT aL aS : Addr} {b : Brd} (B : BoardAt C H p dx aR as aT aL aS b) (k : ∀ c o, c ∈ p :: aT :: aL :: aS :: aR :: as → H c = some o → H' c = some o) : BoardAt C H' p dx aR as aT aL aS b :=
  ⟨k _ _ (by simp) B.ob, B.mat.keep fun c o hc => k c o (by simp at hc ⊢; rcases hc with h | h <;> simp [h]), k _ _ (by simp) B.hT, k _ _ (by simp) B.hL, k _ _ (by simp) B.hS, B.nd⟩
theorem BoardAt.same {C : Addr} {H H' : Hp} {p dx aR : Addr} {as : List Addr} {aT aL aS : Addr} {b : Brd} (B : BoardAt C H p dx aR as aT aL aS b) (s : Same H H') : BoardAt C H' p dx aR as aT aL aS b := B.keep fun c o _ => s c o
theorem bf_rows (aR aT aL aS : Addr) (z : Int) : (bflds aR aT aL aS z).lookup ("rows" : Str) = some (.ref aR) := by rfl
theorem bf_turns (aR aT aL aS : Addr) (z : Int) : (bflds aR aT aL aS z).lookup ("turns" : Str) = some (.ref aT) := by rfl
theorem bf_loads (aR aT aL aS : Addr) (z : Int) : (bflds aR aT aL aS z).lookup ("loads" : Str) = some (.ref aL) := by rfl
theorem bf_steps (aR aT aL aS : Addr) (z : Int) : (bflds aR aT aL aS z).lookup ("steps" : Str) = some (.ref aS) := by rfl
theorem bf_taken (aR aT aL aS : Addr) (z : Int) : (bflds aR aT aL aS z).lookup ("taken" : Str) = some (.int z) := by rfl
theorem putF_new (f : Str) (v : V) : ∀ fs : List (Str × V), (∀ p ∈ fs, p.1 ≠ f) → putF f v fs = fs ++ [(f, v)]
  | [], _ => rfl
  | (g, u) :: r, h => by
    have hg : ¬ g = f := h (g, u) List.mem_cons_self
    show (if g = f then (g, v) :: r else (g, u) :: putF f v r) = _
    rw [if_neg hg, putF_new f v r fun p hp => h p (List.mem_cons_of_mem _ hp)]
    rfl
theorem bflds_mk (aR aT aL aS : Addr) : putF "taken" (.int 0) (putF "steps" (.ref aS) (putF "loads" (.ref aL) (putF "turns" (.ref aT) (putF "rows" (.ref aR) [])))) = bflds aR aT aL aS 0 := by
  have n1 : ∀ p ∈ ([("rows", .ref aR)] : List (Str × V)), p.1 ≠ ("turns" : Str) := fun p hp => by
    rw [List.mem_singleton.mp hp]; show ("rows" : Str) ≠ "turns"; decide +kernel
  have k (ks : List Str) (f : Str) (h : f ∉ ks) (fs : List (Str × V)) (e : fs.map (·.1) = ks) : ∀ p ∈ fs, p.1 ≠ f := fun p hp z => h (by rw [← e, ← z]; exact List.mem_map.mpr ⟨p, hp, rfl⟩)
  rw [show putF "rows" (.ref aR) [] = ([("rows", .ref aR)] : List (Str × V)) from rfl, putF_new "turns" _ _ n1, putF_new "loads" _ _ (k ["rows", "turns"] _ (by decide +kernel) _ rfl), putF_new "steps" _ _ (k ["rows", "turns", "loads"] _ (by decide +kernel) _ rfl), putF_new "taken" _ _ (k ["rows", "turns", "loads", "steps"] _ (by decide +kernel) _ rfl)]
  rfl
end Com

set_option Elab.async false
set_option linter.all false
set_option maxRecDepth 100000
set_option maxHeartbeats 4000000
namespace L2
open PySem PySem.Spec PyProof.Rows

def excO (D e : Addr) : HO := .ext fun h => ∃ ox, h.get? e = some ox ∧ ox.cls = .ref D
section
open PySem.W PySem.Calls PySem.Builtin PySem.Builtin.ObjectAttr PySem.Builtin.Getset_descriptor
variable {prog : Program} {w : World} {A : Around} {E : Value → Shared → Prop} {s : Shared} {K : Frag} {x D : Addr} {ox : Obj}
end

section
variable {X : Cx}
end

section
variable {X : Cx} {pins : List (Addr × Obj)} {σ : St} {H : Hp} {s : Shared}
theorem unbind_ok {M : Model} {A : Around} {E : Value → Shared → Prop} {i : Nat} {x : Str} {v : V} {Q : Unit → Shared → Prop} (I : Inv X pins σ H s) (hN : X.N.Nodup) (hi : X.N[i]? = some x) (hv : σ[i]? = some (some v))
    (hkl : X.env.kindOf x = some .local) (hvis : Vis X.env.scope x)
    (h : ∀ s', Inv X pins (σ.set i none) H s' → Q () s') : wpAny M A (unbindName X.env x) Q E s := by
  obtain ⟨m, hn, hl⟩ := id I.loc
  have hcls : (X.env.scope.kind == .class || (X.env.scope.kind == .module && X.env.locals != X.env.globals)) = false := by rw [I.ok.kind]; rfl
  have hiσ : i < σ.length := by rw [I.len]; exact (List.getElem?_eq_some_iff.mp hi).1
  have cne := I.cne
  obtain ⟨u, ru, lu⟩ := hl i x v hi hv hvis
  have hm : m x = some u := by
    rcases lu with ⟨_, e⟩ | ⟨k, _⟩
    · exact e
    · rcases k with k | k <;> (rw [hkl] at k; cases k)
  refine wpAny_unbindName_local hkl hn hm hcls fun h' u' hn' hs => ?_
  obtain ⟨oL, _, _, hoL, _⟩ := id hn
  refine h _ ⟨I.ok, I.os, I.bare, ⟨fun b o e n hb hx => ?_, fun b o e n hb hx => ?_, I.base.free, fun b o e hx => ?_, I.base.tups, I.base.frzs, I.base.tbls⟩, ⟨_, hn', fun j y v' e1 e2 e3 => ?_⟩, fun y c e => ?_, I.free, I.freeC, fun p hp => ?_, fun b ob e => ?_, by simpa using I.len⟩
  · exact (hs.2 b (Nat.ne_of_lt (Nat.lt_of_lt_of_le (Heap.lt_size e) I.ok.above))).trans (I.base.keep b o e n hb hx)
  · obtain ⟨sl, e1⟩ := I.base.slot b o e n hb hx
    exact ⟨sl, (hs.2 b (Nat.ne_of_lt (Nat.lt_of_lt_of_le (Heap.lt_size e) I.ok.above))).trans e1⟩
  · obtain ⟨o', e1⟩ := I.base.there b o e hx
    exact ⟨o', (hs.2 b (Nat.ne_of_lt (Nat.lt_of_lt_of_le (Heap.lt_size e) I.ok.above))).trans e1⟩
  · by_cases hj : j = i
    · subst hj
      rw [List.getElem?_set_self hiσ] at e2
      cases e2
    · rw [List.getElem?_set_ne (Ne.symm hj)] at e2
      obtain ⟨u2, r2, q⟩ := hl j y v' e1 e2 e3
      refine ⟨u2, r2, ?_⟩
      rcases q with ⟨k, e⟩ | ⟨k, c, e, z⟩
      · refine .inl ⟨k, ?_⟩
        have : y ≠ x := fun e => hj (nodup_ix hN e1 (e ▸ hi))
        simp [this, e]
      · exact .inr ⟨k, c, e, z.sameBut hs (cne y c e)⟩
  · obtain ⟨w', z⟩ := I.cell y c e
    exact ⟨w', z.sameBut hs (cne y c e)⟩
  · obtain ⟨e, n, ne, nf, d⟩ := I.pin p hp
    exact ⟨(hs.2 p.1 ne).trans e, n, ne, nf, d⟩
  · refine (I.hok b ob e).stay (fun c w' hc q => (hs.2 c ?_).trans q) (fun _ q => q) fun _ _ q => q
    rintro rfl
    rcases hc with rfl | hc
    · rw [I.free] at e; cases e
    · rw [I.free] at hc; cases hc
end

section
variable {X : Cx} {pins : List (Addr × Obj)} {σ : St} {H : Hp} {s : Shared} {e : Addr}
theorem ObjOk.there {P : Program} {w : World} {H : Hp} {h : Heap} {a : Addr} {o : HO} (x : ObjOk P w H h a o) : ∃ ob, h.get? a = some ob := by
  cases o with
  | lst xs => obtain ⟨_, its, n, _, e⟩ := x; exact ⟨_, e⟩
  | tup xs => obtain ⟨_, _, _, p⟩ := x; obtain ⟨o, e, _⟩ := p; exact ⟨_, e⟩
  | dK kvs => obtain ⟨_, _, vs, _, p⟩ := x; obtain ⟨o, es, ep, e, _⟩ := p; exact ⟨_, e⟩
  | dT kvs => obtain ⟨_, _, xs, _, o, es, ep, e, _⟩ := x; exact ⟨_, e⟩
  | set S n => obtain ⟨o, _, _, _, e, _⟩ := x; exact ⟨_, e⟩
  | ins C dx fs => obtain ⟨_, _, _, e, _⟩ := x; exact ⟨_, e⟩
  | own y => exact x
  | xd fs => obtain ⟨_, ⟨_, _, _, e, _⟩, _⟩ := x; exact ⟨_, e⟩
  | met f y => exact ⟨_, x⟩
  | rng lo hi => obtain ⟨_, _, _, e⟩ := x; exact ⟨_, e⟩
  | frz ob u => exact ⟨_, x.1⟩
  | tbl ps => exact ⟨_, x⟩
  | ext φ => exact x.2.1
theorem Fl.fresh {cls : Value} (F : Fl X pins σ e cls H s) : H e = none := by
  obtain ⟨s0, H0, B, a0, I, os, bare, xb, sl, fl⟩ := F
  cases q : H e with
  | none => rfl
  | some o =>
    have := (xb.hok e o q).there
    obtain ⟨ob, z⟩ := this
    rw [fl.2.1] at z; cases z
theorem Fl.track {D : Addr} (F : Fl X pins σ e (.ref D) H s) : Inv X pins σ (upd H e (excO D e)) s := by
  have hfresh := F.fresh
  have hIn := F.inv
  obtain ⟨o, he, hc⟩ := F.there
  obtain ⟨s0, H0, B, a0, I, os, bare, xb, sl, fl⟩ := F
  have u := xb.un fl.1 sl I.stkFree
  have ne0 : ∀ b ob, s0.heap.get? b = some ob → b ≠ e := fun b ob q z => by
    subst z
    by_cases hb : b ∈ frs X.stack
    · obtain ⟨oe, vs, T, oT, ts, h1, h2, h3, _⟩ := fl.2.2.2
      obtain ⟨_, o2, ho2, hd2⟩ := fl.2.2.1.mem hb
      rw [h1] at ho2
      cases ho2
      exact hd2 vs h3
    · obtain ⟨o', q'⟩ := xb.there b ob q hb
      rw [fl.2.1] at q'; cases q'
  refine I.call' (ch := []) os ⟨u.keep, u.slot, fun b ob q n hx => ?_, u.there, fun b xs q => ?_, fun b ob xs q => ?_, fun b ps q => ?_⟩ (fun b ob q => ?_) bare fun b z => by cases z
  · rw [upd_ne (ne0 b ob q)]; exact u.free b ob q n hx
  · have z := u.tups b xs q
    rw [upd_ne (ne_of_none z hfresh)]; exact z
  · have z := u.frzs b ob xs q
    rw [upd_ne (ne_of_none z hfresh)]; exact z
  · obtain ⟨m, z⟩ := u.tbls b ps q
    exact ⟨m, by rw [upd_ne (ne_of_none z hfresh)]; exact z⟩
  · by_cases hb : b = e
    · subst hb
      rw [upd_same] at q
      cases q
      exact ⟨⟨o, he, hc⟩, ⟨o, he⟩, fun h1 h2 ⟨ox, p1, p2⟩ k => ⟨ox, k ox p1, p2⟩⟩
    · rw [upd_ne hb] at q
      exact (hIn.hok b ob q).stay (fun _ _ _ z => z) (fun c z => by rw [upd_ne (ne_of_none z hfresh)]; exact z) fun c xs z => by rw [upd_ne (ne_of_none z hfresh)]; exact z
def unb (i : Nat) (D : Ends) : Ends := { nx := fun σ H => D.nx (σ.set i none) H, rt := D.rt, bk := fun σ H => D.bk (σ.set i none) H, ct := fun σ H => D.ct (σ.set i none) H }
theorem unbind_suite {M : Model} {A : Around} {E : Value → Shared → Prop} {i : Nat} {x : Str} {pos : Pos} {D : Ends} {f : Flow} (ok : X.Ok) (hN : X.N.Nodup) (hi : X.N[i]? = some x) (hkl : X.env.kindOf x = some .local) (hvis : Vis X.env.scope x)
    (h : SP X pins (unb i D) f s) : wpAny M A (do bindName X.env x .none; unbindBehindTheSuite X.env x pos) (fun _ s' => SP X pins D f s') E s := by
  have go : ∀ (σ' : St) (H' : Hp) (Q : Unit → Shared → Prop), Inv X pins σ' H' s → (∀ s', Inv X pins (σ'.set i none) H' s' → Q () s') → wpAny M A (do bindName X.env x .none; unbindBehindTheSuite X.env x pos) Q E s := fun σ' H' Q I q => by
    have hiσ : i < σ'.length := by rw [I.len]; exact (List.getElem?_eq_some_iff.mp hi).1
    unfold bindName
    refine wpAny_bind (wpAny_bind (wpAny_holding (wpAny_point (wpAny_bind (store_ok I hN hi (.inl hkl) (v := .non) rfl (fun s1 I1 => wpAny_point ?_) (.inr hkl))))))
    unfold unbindBehindTheSuite
    refine wpAny_onRaise (unbind_ok I1 hN hi (v := .non) (by rw [List.getElem?_set_self hiσ]) hkl hvis fun s2 I2 => q s2 ?_)
    rw [List.set_set] at I2
    exact I2
  cases f with
  | next => obtain ⟨σ', H', I, q⟩ := h; exact go σ' H' _ I fun s' I' => ⟨_, _, I', q⟩
  | brk => obtain ⟨σ', H', I, q⟩ := h; exact go σ' H' _ I fun s' I' => ⟨_, _, I', q⟩
  | cont => obtain ⟨σ', H', I, q⟩ := h; exact go σ' H' _ I fun s' I' => ⟨_, _, I', q⟩
  | ret u => obtain ⟨v, σ', H', I, r, q⟩ := h; exact go σ' H' _ I fun s' I' => ⟨v, _, _, I', r, q⟩
end
def tHsA (K : PySem.W.Frag) (i : Nat) (C : Addr) (tb : TS) (tr : Value → TS) : Value → TS := fun cls D σ H =>
  ∃ (B : Addr) (b : Bool), cls = .ref B ∧ B ≠ C ∧ PySem.W.kitOne K (.ref B) (.ref C) = some b ∧ if b = true then ∀ e, H e = none → tb (unb i D) (σ.set i (some (.ref e))) (upd H e (excO B e)) else tr cls D σ H
section
variable {X : Cx} {i : Nat} {n x : Str} {C : Addr} {np pos : Pos} {b₀ : Stmt} {suite : List Stmt} {rest : List ExceptHandler} {tb : TS} {tr : Value → TS}
theorem ph_as (hN : X.N.Nodup) (hi : X.N[i]? = some n) (hkl : X.env.kindOf n = some .local) (hvis : Vis X.env.scope n) (hg : Gl X x) (hm : X.mg x = some (.ref C)) (hB : PySem.W.kitOne X.K (.ref C) (.type "BaseException") = some true) (hs : ∀ e, PSs (XA X e) (b₀ :: suite) tb) (hr : PH X rest tr)
    (hd : (x == ("__debug__" : Str)) = false := by decide) :
    PH X (.ExceptHandler (some (.Name x np)) (some n) (b₀ :: suite) pos :: rest) (tHsA X.K i C tb tr) := by
  intro e cls pins s σ H D F h
  have I := F.inv
  obtain ⟨o, he, hc⟩ := F.there
  refine wpAny_handleBy_cons (codeAny_handlers_test (ld_glob (X := XA X e) (I.caught e) hg hm ?_ hd)) (by intro z; cases z)
  obtain ⟨B, b, ec, nB, kB, q⟩ := h
  subst ec
  refine match_other I.kIn nB kB hB he hc ?_
  cases b with
  | true =>
    have q' : ∀ e, H e = none → tb (unb i D) (σ.set i (some (.ref e))) (upd H e (excO B e)) := q
    have hq := q' e F.fresh
    refine codeAny_handlers_suite_as (F.again fun s' F' => ?_)
    have I' := F'.track
    refine store_ok (X := XA X e) (I'.caught e) hN hi (.inl hkl) (v := .ref e) rfl (fun s2 I2 => ?_) (.inr hkl)
    refine wpAny_mono (hs e pins s2 _ _ _ I2 hq) (fun f s3 z => ?_) fun _ _ z => z.elim
    exact unbind_suite I.ok hN hi hkl hvis (SP.uncaught I.ok z)
  | false => exact hr e (.ref B) pins s σ H D F q
end
end L2

set_option Elab.async false
set_option linter.all false
set_option maxRecDepth 100000
set_option maxHeartbeats 4000000
namespace L2
open PySem PySem.Spec PyProof.Rows

section
variable {X : Cx} {pins : List (Addr × Obj)} {σ : List (Option V)} {H : Hp} {s : Shared} {h' : Heap}
/-- untracked records of ours have turned -/
theorem Inv.turnedL {t' : Nat} {fp : List Addr} (I : Inv X pins σ H s) (k : ∀ b o, b ∉ fp → s.heap.get? b = some o → h'.get? b = some o) (hf : ∀ b ∈ fp, FpOk X pins H b) : Inv X pins σ H { s with heap := h', toks := t' } := by
  have nit : ∀ b u, H b = some u → b ∉ fp := fun b u e z => by rw [(hf b z).1] at e; cases e
  refine I.step (g' := s.gens) (d' := s.drawn) (ch := fp) (fun b hb => ?_) (fun b o _ _ hc e _ => k b o hc e) (fun b o _ _ hc e _ => ⟨o.slots, k b o hc e⟩) (fun _ _ _ _ n => n)
    (fun b o hc e => ⟨o, k b o hc e⟩) (fun _ _ e => e) (fun _ _ _ e => e) (fun b ps e => ⟨#[], by rw [e]; simp⟩) (fun m hm => ?_) (fun b u e => ?_) I.bare
  · obtain ⟨_, f1, _, f3, f4, f5⟩ := hf b hb
    exact ⟨f3, f1, f4, f5⟩
  · obtain ⟨o, es, ep, ho, r⟩ := hm
    exact ⟨o, es, ep, k _ o (fun z => (hf _ z).2.1 rfl) ho, r⟩
  · refine (I.hok b u e).stay (fun c v hc q => k c v ?_ q) (fun _ q => q) fun _ _ q => q
    rcases hc with z | z
    · rw [z]; exact nit b u e
    · exact nit c _ z
/-- a thing that stands is tracked -/
theorem Inv.track {a : Addr} {o : HO} (I : Inv X pins σ H s) (f : FpOk X pins H a) (hsz : X.s₀.heap.objs.size ≤ a) (new : ObjOk X.prog X.w (upd H a o) s.heap a o) : Inv X pins σ (upd H a o) s := by
  obtain ⟨f0, f1, f2, f3, f4, f5⟩ := f
  have ne0 : ∀ b ob, X.s₀.heap.get? b = some ob → b ≠ a := fun b ob e => Nat.ne_of_lt (Nat.lt_of_lt_of_le (Heap.lt_size e) hsz)
  refine ⟨I.ok, I.os, I.bare, ⟨I.base.keep, I.base.slot, fun b ob e n hx => by rw [upd_ne (ne0 b ob e)]; exact I.base.free b ob e n hx, I.base.there, fun b xs e => ?_, fun b ob u e => ?_, fun b ps e => ?_⟩, I.loc, I.cell, by rw [upd_ne (Ne.symm f1)]; exact I.free, fun x c e => by rw [upd_ne (f4 x c e)]; exact I.freeC x c e, fun p hp => ?_, fun b ob e => ?_, I.len⟩
  · have z := I.base.tups b xs e
    rw [upd_ne (ne_of_none z f0)]; exact z
  · have z := I.base.frzs b ob u e
    rw [upd_ne (ne_of_none z f0)]; exact z
  · obtain ⟨m, z⟩ := I.base.tbls b ps e
    exact ⟨m, by rw [upd_ne (ne_of_none z f0)]; exact z⟩
  · obtain ⟨e, n, r⟩ := I.pin p hp
    exact ⟨e, by rw [upd_ne (f5 p hp)]; exact n, r⟩
  · by_cases hb : b = a
    · subst hb
      rw [upd_same] at e
      cases e
      exact new
    · rw [upd_ne hb] at e
      exact (I.hok b ob e).stay (fun _ _ _ z => z) (fun c z => by rw [upd_ne (ne_of_none z f0)]; exact z) fun c xs z => by rw [upd_ne (ne_of_none z f0)]; exact z
end

def Ite (K : PySem.W.Frag) (a : Addr) (xs : List V) : It :=
  ⟨fun i H => i < xs.length ∧ SqL K H a xs, fun i H x H' => ∃ p y, H p = none ∧ xs[i]? = some y ∧ x = .ref p ∧ H' = upd H p (.tup [.int (i : Int), y]), fun i H => i = xs.length ∧ SqL K H a xs⟩
theorem turn_enum {P : Program} {w : World} {K : PySem.W.Frag} {elts : List Expr} {x1 : Nat} {tpos : Pos} (a e it : Addr) (xs : List V) (hei : e ≠ it) :
    Turn P w K (.Tuple elts x1 tpos) (Ite K a xs) [e, it] e (fun i h => (∃ old, IsEnum h e it ((i : Nat) : Int) old) ∧ h.IsListIter it a i) where
  mem := by simp
  obj := fun i h st b hb => by
    obtain ⟨⟨old, he⟩, o, e2, c, d⟩ := st
    simp only [List.mem_cons, List.not_mem_nil, or_false] at hb
    rcases hb with rfl | rfl
    · exact ⟨_, he, fun v z => by cases z⟩
    · exact ⟨o, e2, fun v z => by rw [d] at z; cases z⟩
  keep := fun i h h' st k => ⟨by obtain ⟨old, he⟩ := st.1; exact ⟨old, k e (by simp) _ he⟩, st.2.at fun o e2 => k it (by simp) o e2⟩
  item := by
    intro X hP hw hK hc i pins s σ H E I hf st hg
    subst hP hw hK
    obtain ⟨hi, hq⟩ := hg
    obtain ⟨⟨old, he⟩, hit⟩ := st
    obtain ⟨its, rv, p, hz⟩ := I.list hq
    have hl := rv.length
    obtain ⟨u, hu, ru⟩ := rv.get (List.getElem?_eq_getElem (l := xs) (i := i) hi)
    refine wpAny_pyNext_enum_item he hit p.isList (x := u) (by simpa using hu) hei fun h1 heo hit1 ht1 hz1 hk1 => ?_
    refine ⟨.ref s.heap.objs.size, rfl, ?_⟩
    refine wpAny_letOwnedTupleGo_enum heo fun h2 he2 hs2 => ?_
    have hes : e < s.heap.objs.size := Heap.lt_size he
    have k2 : ∀ b o, b ∉ [e, it] → s.heap.get? b = some o → h2.get? b = some o := fun b o hb q => by
      simp only [List.mem_cons, List.not_mem_nil, or_false, not_or] at hb
      exact (hs2.2 b hb.1).trans (hk1 b o hb.1 hb.2 q)
    have I1 : Inv X pins σ H { s with heap := h2, toks := s.toks + 1 } := I.turnedL (t' := s.toks + 1) k2 hf
    have fn : H s.heap.objs.size = none := I.hok.fresh (Nat.le_refl _)
    have htup : h2.get? s.heap.objs.size = some { cls := .type "tuple", data := .seq #[.int i s.toks, u] } := (hs2.2 _ (Nat.ne_of_gt hes)).trans ht1
    have I2 := I1.track (a := s.heap.objs.size) (o := .tup [.int (i : Int), xs[i]]) (I.fpOk (Nat.le_refl _) fn) I.sz (by
      refine ⟨by rw [sizeLine_eq]; show 2 ≤ _; decide, [.int i s.toks, u], .cons ⟨_, rfl⟩ (.cons ru .nil), ?_⟩
      exact ⟨_, htup, rfl, _, rfl⟩)
    refine ⟨.ref s.heap.objs.size, _, I2, rfl, ⟨s.heap.objs.size, xs[i], fn, List.getElem?_eq_getElem hi, rfl, rfl⟩, ⟨⟨u, ?_⟩, ?_⟩, fun b hb => ?_⟩
    · have : ((i + 1 : Nat) : Int) = (i : Int) + 1 := by (first | lia | omega)
      rw [this]; exact he2
    · exact hit1.extBut hs2.extBut (Ne.symm hei)
    · have hb' := (hf b hb).1
      have : b < s.heap.objs.size := by
        simp only [List.mem_cons, List.not_mem_nil, or_false] at hb
        rcases hb with rfl | rfl
        · exact hes
        · obtain ⟨o, e2, _⟩ := hit; exact Heap.lt_size e2
      rw [upd_ne (Nat.ne_of_lt this)]; exact hb'
  done := by
    intro X hP hw hK hc i pins s σ H E I hf st hg
    subst hP hw hK
    obtain ⟨hi, hq⟩ := hg
    subst hi
    obtain ⟨⟨old, he⟩, hit⟩ := st
    obtain ⟨its, rv, p, hz⟩ := I.list hq
    have hl := rv.length
    refine wpAny_pyNext_enum_end (I.ok.hd hc) he hit p.isList (by simp; (first | lia | omega)) fun h1 he1 => ⟨rfl, ?_⟩
    exact I.turnedL (t' := s.toks) (fp := [e, it]) (fun b o hb q => he1 b o (fun z => hb (by simp [z])) q) hf
  self := fun _ _ _ _ _ st h => by obtain ⟨⟨old, he⟩, _⟩ := st; exact wpAny_pyIter_enum he h
def iEnum (K : PySem.W.Frag) (ta : TA) : TI := fun σ H R => ta σ H fun vs H1 => ∃ a xs, vs = [.ref a] ∧ SqL K H1 a xs ∧ R (Ite K a xs) H1
section
variable {X : Cx}
theorem pi_enum {elts : List Expr} {x1 : Nat} {tpos : Pos} {a : Expr} {ta : TA} {p pos : Pos} {K : PySem.W.Frag} (hK : X.K = K) (hg : Gl X "enumerate") (hm : X.mg "enumerate" = none) (ha : PA X [a] ta) (hs : starEach [a] X.env = [(false, eval a X.env)] := by rfl) :
    PI X (.Tuple elts x1 tpos) (.Call (.Name "enumerate" p) [a] [] pos) (iEnum K ta) := by
  subst hK
  intro pins s σ H R I h
  refine Call_ (ld_blt I hg hm boot_enumerate (PyProof.Rows.callWith_type1 (thn (ha pos pins s σ H _ I h) fun us s1 ⟨vs, H1, I1, r1, q1⟩ => ?_) hs rfl))
  obtain ⟨l, xs, e, hq, q⟩ := q1
  subst e
  obtain ⟨u, rfl, ru⟩ := vals1 r1
  cases ru
  obtain ⟨its, rv, pl, hz⟩ := I1.list hq
  refine call_enumerate_list pl.isList fun h1 he hit hsz hk => ?_
  refine wpAny_pyIter_enum (s := { s1 with heap := h1 }) he ?_
  refine ⟨s1.heap.objs.size + 1, [s1.heap.objs.size + 1, s1.heap.objs.size], _, _, H1, rfl, I1.kept (t' := s1.toks) hk, turn_enum l (s1.heap.objs.size + 1) s1.heap.objs.size xs (Nat.succ_ne_self _), ⟨⟨_, he⟩, hit⟩, fun b hb => ?_, q⟩
  simp only [List.mem_cons, List.not_mem_nil, or_false] at hb
  rcases hb with rfl | rfl
  · exact I1.fpOk (Nat.le_succ _) (I1.hok.fresh (Nat.le_succ _))
  · exact I1.fpOk (Nat.le_refl _) (I1.hok.fresh (Nat.le_refl _))
end
theorem for_enumN {K : PySem.W.Frag} {a : Addr} {xs : List V} {g : TG} {tb : TS} {D : Ends} {σ : St} {H : Hp} (Pv : Nat → St → Hp → Prop) (h0 : Pv 0 σ H) (hl : ∀ i σ H, i ≤ xs.length → Pv i σ H → SqL K H a xs)
    (hs : ∀ i x σ H p, xs[i]? = some x → Pv i σ H → H p = none → ∀ D' : Ends, (∀ σ' H', Pv (i + 1) σ' H' → D'.nx σ' H') → g (.ref p) σ (upd H p (.tup [.int (i : Int), x])) fun σ2 H2 => tb D' σ2 H2) (hd : ∀ σ H, Pv xs.length σ H → D.nx σ H) :
    ∃ W : Nat → Nat → St → Hp → Prop, (∃ m, W 0 m σ H) ∧ ∀ i m σ H, W i m σ H →
      ((Ite K a xs).stop i H ∧ D.nx σ H) ∨ ((Ite K a xs).go i H ∧ ∃ N : St → Hp → Prop, (∀ σ' H', N σ' H' → ∃ m', m' < m ∧ W (i + 1) m' σ' H') ∧ ∀ x H', (Ite K a xs).yld i H x H' → g x σ H' fun σ2 H2 => tb { D with nx := N, ct := N, bk := D.nx } σ2 H2) := by
  refine ⟨fun i m σ H => m = xs.length - i ∧ i ≤ xs.length ∧ Pv i σ H, ⟨xs.length, by simp, Nat.zero_le _, h0⟩, ?_⟩
  rintro i m σ H ⟨rfl, hi, p⟩
  have q := hl i σ H hi p
  by_cases hlt : i < xs.length
  · refine .inr ⟨⟨hlt, q⟩, Pv (i + 1), fun σ' H' p' => ⟨xs.length - (i + 1), by (first | lia | omega), rfl, hlt, p'⟩, fun x H' y => ?_⟩
    obtain ⟨c, y, hc, ey, rfl, rfl⟩ := y
    exact hs i y σ H c ey p hc _ fun _ _ z => z
  · have e : i = xs.length := by (first | lia | omega)
    subst e
    exact .inl ⟨⟨rfl, q⟩, hd σ H p⟩
end L2
namespace L2
open PySem PySem.Spec PyProof.Rows
section
variable {X : Cx}
end
end L2
namespace L2
open PySem PySem.Spec PyProof.Rows
/-- a filter whose test lays new things -/
theorem comp_filterS {J : It} {xs : List V} {p : V → Bool} {σ' : St} {j : Nat} {ti : TT} {te : TE} {Q : VK} {H : Hp} (W : Wk J xs H) (hz : xs.length ≤ sizeLine)
    (ht : ∀ x ∈ xs, ∀ H3, Same H H3 → ∀ Q' : Bool → Hp → Prop, (∀ H4, Same H3 H4 → Q' (p x) H4) → ti (σ'.set j (some x)) H3 Q') (hs : ∀ x ∈ xs, p x = true → ∀ H3, Same H H3 → ∀ Q' : VK, Q' x H3 → te (σ'.set j (some x)) H3 Q')
    (hd : ∀ H' D, Same H H' → H' D = none → Q (.ref D) (upd H' D (.lst (xs.filter p)))) : CompW σ' j ti te Q J H := by
  refine ⟨fun i m zs H3 => m = xs.length - i ∧ i ≤ xs.length ∧ Same H H3 ∧ zs = (xs.take i).filter p, ⟨xs.length, by simp, Nat.zero_le _, Same.refl _, by simp⟩, ?_⟩
  rintro i m zs H3 ⟨rfl, hi, s3, rfl⟩
  by_cases hlt : i < xs.length
  · have hx : xs[i]? = some xs[i] := List.getElem?_eq_getElem hlt
    have hm : xs[i] ∈ xs := List.getElem_mem hlt
    have hle : ((xs.take i).filter p).length < sizeLine := by
      have h1 := List.length_filter_le p (xs.take i)
      rw [List.length_take] at h1
      (first | lia | omega)
    refine .inr ⟨W.go i _ s3 hlt, hle, fun zs' H' => Same H H' ∧ zs' = (xs.take (i + 1)).filter p, fun zs' H' p => ⟨xs.length - (i + 1), by (first | lia | omega), rfl, hlt, p.1, p.2⟩, fun x H' y => ?_⟩
    obtain ⟨e, ex⟩ := W.yl i _ x H' s3 hlt y
    subst e
    rw [hx] at ex
    have ex' := Option.some.inj ex
    subst ex'
    refine ht _ hm _ s3 _ fun H4 s4 => ?_
    have et : xs.take (i + 1) = xs.take i ++ [xs[i]] := by rw [List.take_add_one, hx]; rfl
    cases hp : p xs[i] with
    | true =>
      rw [if_pos rfl]
      refine hs _ hm hp _ (s3.trans s4) _ ⟨s3.trans s4, ?_⟩
      rw [et, List.filter_append]
      simp [hp]
    | false =>
      rw [if_neg (by simp)]
      refine ⟨s3.trans s4, ?_⟩
      rw [et, List.filter_append]
      simp [hp]
  · have e : i = xs.length := by (first | lia | omega)
    subst e
    refine .inl ⟨W.st _ s3, fun D hD => ?_⟩
    have := hd H3 D s3 hD
    rw [List.take_of_length_le (Nat.le_refl _)]
    exact this
end L2

set_option Elab.async false
set_option linter.all false
set_option maxRecDepth 100000
set_option maxHeartbeats 4000000
namespace Com
open PySem L2
/-- the pit is reached within k goings -/
def reachN (rows : List (List Int)) : Nat → Nat → Bool
  | 0, _ => false
  | k + 1, i => (rows.getD i []).any fun e => e == -1 || (decide (0 ≤ e) && reachN rows k e.toNat)
theorem reachN_mono (rows : List (List Int)) : ∀ (k : Nat) (i : Nat), reachN rows k i = true → reachN rows (k + 1) i = true
  | 0, i, h => by cases h
  | k + 1, i, h => by
    unfold reachN at h ⊢
    obtain ⟨e, he, q⟩ := List.any_eq_true.mp h
    refine List.any_eq_true.mpr ⟨e, he, ?_⟩
    rw [Bool.or_eq_true, Bool.and_eq_true] at q ⊢
    rcases q with q | ⟨q1, q2⟩
    · exact .inl q
    · exact .inr ⟨q1, reachN_mono rows k _ q2⟩
theorem reachN_le (rows : List (List Int)) {j k : Nat} (h : j ≤ k) {i : Nat} (q : reachN rows j i = true) : reachN rows k i = true := by
  induction h with
  | refl => exact q
  | step _ ih => exact reachN_mono rows _ i ih
theorem reachN_lt {rows : List (List Int)} {k i : Nat} (h : reachN rows k i = true) : i < rows.length := by
  cases k with
  | zero => cases h
  | succ k =>
    unfold reachN at h
    obtain ⟨e, he, _⟩ := List.any_eq_true.mp h
    by_cases hi : i < rows.length
    · exact hi
    · have e0 : rows.getD i [] = [] := by simp [List.getElem?_eq_none (by (first | lia | omega) : rows.length ≤ i)]
      rw [e0] at he
      cases he
/-- nothing new comes in the going behind k: then never more -/
def Still (rows : List (List Int)) (k : Nat) : Prop := ∀ i, reachN rows (k + 1) i = true → reachN rows k i = true
theorem Still.next {rows : List (List Int)} {k : Nat} (h : Still rows k) : Still rows (k + 1) := fun i q => by
  rw [reachN] at q
  obtain ⟨e, he, q⟩ := List.any_eq_true.mp q
  rw [reachN]
  refine List.any_eq_true.mpr ⟨e, he, ?_⟩
  rw [Bool.or_eq_true, Bool.and_eq_true] at q ⊢
  rcases q with q | ⟨q1, q2⟩
  · exact .inl q
  · exact .inr ⟨q1, h _ q2⟩
theorem Still.all {rows : List (List Int)} {k : Nat} (h : Still rows k) : ∀ m, k ≤ m → ∀ i, reachN rows m i = true → reachN rows k i = true := fun m hm => by
  have hs : ∀ d, Still rows (k + d) := fun d => by
    induction d with
    | zero => exact h
    | succ d ih => exact ih.next
  induction hm with
  | refl => exact fun i q => q
  | @step m hm ih =>
    intro i q
    have e : m = k + (m - k) := by have : k ≤ m := hm; (first | lia | omega)
    have hs' := hs (m - k)
    rw [← e] at hs'
    exact ih i (hs' i q)
/-- how many sites are known behind k goings -/
def cnt (rows : List (List Int)) (k : Nat) : Nat := ((List.range rows.length).filter (reachN rows k)).length
theorem cnt_le (rows : List (List Int)) (k : Nat) : cnt rows k ≤ rows.length := by
  unfold cnt
  exact Nat.le_trans (List.length_filter_le _ _) (by simp)
theorem filter_le {p q : Nat → Bool} (h : ∀ i, p i = true → q i = true) : ∀ l : List Nat, (l.filter p).length ≤ (l.filter q).length
  | [] => Nat.le_refl _
  | a :: l => by
    have ih := filter_le h l
    rw [List.filter_cons, List.filter_cons]
    cases hp : p a with
    | true =>
      rw [h a hp, if_pos rfl, if_pos rfl, List.length_cons, List.length_cons]
      (first | lia | omega)
    | false =>
      rw [if_neg Bool.false_ne_true]
      split
      · rw [List.length_cons]; (first | lia | omega)
      · exact ih
theorem filter_lt {p q : Nat → Bool} (h : ∀ i, p i = true → q i = true) : ∀ (l : List Nat) (x : Nat), x ∈ l → p x = false → q x = true → (l.filter p).length < (l.filter q).length
  | a :: l, x, hx, hp, hq => by
    rw [List.filter_cons, List.filter_cons]
    rcases List.mem_cons.mp hx with rfl | hx
    · rw [hp, hq, if_neg Bool.false_ne_true, if_pos rfl, List.length_cons]
      have := filter_le h l
      (first | lia | omega)
    · have ih := filter_lt h l x hx hp hq
      cases hpa : p a with
      | true =>
        rw [h a hpa, if_pos rfl, if_pos rfl, List.length_cons, List.length_cons]
        (first | lia | omega)
      | false =>
        rw [if_neg Bool.false_ne_true]
        split
        · rw [List.length_cons]; (first | lia | omega)
        · exact ih
theorem cnt_lt {rows : List (List Int)} {k i : Nat} (h1 : reachN rows (k + 1) i = true) (h0 : reachN rows k i = false) : cnt rows k < cnt rows (k + 1) :=
  filter_lt (fun j => reachN_mono rows k j) _ i (List.mem_range.mpr (reachN_lt h1)) h0 h1
theorem still_or {rows : List (List Int)} (k : Nat) : Still rows k ∨ cnt rows k < cnt rows (k + 1) := by
  by_cases h : Still rows k
  · exact .inl h
  · right
    unfold Still at h
    have : ∃ i, reachN rows (k + 1) i = true ∧ ¬ reachN rows k i = true := Classical.byContradiction fun hn => h fun i q => Classical.byContradiction fun hk => hn ⟨i, q, hk⟩
    obtain ⟨i, h1, h0⟩ := this
    exact cnt_lt h1 (by simpa using h0)
theorem still_by {rows : List (List Int)} : ∀ k, (∃ j, j ≤ k ∧ Still rows j) ∨ k < cnt rows (k + 1)
  | 0 => by
    rcases still_or (rows := rows) 0 with h | h
    · exact .inl ⟨0, Nat.le_refl _, h⟩
    · exact .inr (by (first | lia | omega))
  | k + 1 => by
    rcases still_by (rows := rows) k with ⟨j, hj, h⟩ | h
    · exact .inl ⟨j, by (first | lia | omega), h⟩
    · rcases still_or (rows := rows) (k + 1) with h' | h'
      · exact .inl ⟨k + 1, Nat.le_refl _, h'⟩
      · exact .inr (by (first | lia | omega))
/-- as many goings as sites are enough -/
theorem still_len (rows : List (List Int)) : Still rows rows.length := by
  rcases still_by (rows := rows) rows.length with ⟨j, hj, h⟩ | h
  · intro i q
    exact reachN_le rows hj (h.all _ (by (first | lia | omega)) i q)
  · have := cnt_le rows (rows.length + 1)
    (first | lia | omega)
/-- the pit is reached from the site i -/
def rch (rows : List (List Int)) (i : Nat) : Bool := reachN rows rows.length i
theorem rch_of {rows : List (List Int)} {k i : Nat} (h : reachN rows k i = true) : rch rows i = true := by
  unfold rch
  by_cases hk : k ≤ rows.length
  · exact reachN_le rows hk h
  · exact (still_len rows).all k (by (first | lia | omega)) i h
/-- going on from a site that reaches it -/
theorem rch_step {rows : List (List Int)} {i : Nat} {e : Int} (he : e ∈ rows.getD i []) (h : e = -1 ∨ 0 ≤ e ∧ rch rows e.toNat = true) : rch rows i = true := by
  refine rch_of (k := rows.length + 1) ?_
  rw [reachN]
  refine List.any_eq_true.mpr ⟨e, he, ?_⟩
  rw [Bool.or_eq_true, Bool.and_eq_true]
  rcases h with h | ⟨h1, h2⟩
  · exact .inl (by rw [h]; rfl)
  · exact .inr ⟨decide_eq_true h1, h2⟩
end Com

set_option Elab.async false
set_option linter.all false
set_option maxRecDepth 100000
set_option maxHeartbeats 4000000
namespace Com
open PySem L2
def TurnsOk (rows : List (List Int)) (ts : List Int) : Prop := ts.length = rows.length ∧ ∀ i, i < rows.length → 0 ≤ ts.getD i 0 ∧ ts.getD i 0 < ((rows.getD i []).length : Int)
end Com

set_option Elab.async false
set_option linter.all false
set_option maxRecDepth 100000
set_option maxHeartbeats 4000000
namespace L2
open PySem PySem.Spec PyProof.Rows
section
variable {X : Cx} {pins : List (Addr × Obj)} {σ : St} {H : Hp} {s : Shared} {tg elt iter : Expr} {g : TG} {ifs : List Expr} {scope : Scope} {pos : Pos} {N' : List Str} {ix : List (Option Nat)} {wi : TI} {ti : TT} {te : TE}
end
end L2

set_option Elab.async false
set_option linter.all false
set_option maxRecDepth 100000
set_option maxHeartbeats 4000000
namespace L2
open PySem PySem.Spec PyProof.Rows
section
variable {X : Cx}
/-- a list's method, in a comprehension too -/
theorem pe_bmC {o e : Expr} {es : List Expr} {to : TE} {t : TA} {name : Str} {apos cpos : Pos} {T id : String} {r : V → List V → Hp → VK → Prop} {K : PySem.W.Frag} (hK : X.K = K) (pa : PlainAttrs T) (slot : Slot T name id) (hty : typeOf (.builtin id) = pure (.type "method_descriptor")) (hm : MtR X id r) (ho : PE X o to) (ha : PA X (e :: es) t)
    (hbase : attributeBase o name X.env (eval o X.env) = eval o X.env := by rfl)
    (hfew : ((backTo cpos (starEach (e :: es) X.env)).all (fun x => !x.1) && (backToKw cpos (keywordEach [] X.env)).all (fun x => x.1.isSome)
      && decide ((e :: es).length + ([] : List Keyword).length + (if ([] : List Keyword).isEmpty then 0 else 1) < 30)) = true := by rfl)
    (hline : (apos.endLine == cpos.line) = true := by rfl) (hs : starEach (e :: es) X.env = (false, eval e X.env) :: starEach es X.env := by rfl) (hplain : (backTo cpos (starEach es X.env)).any (·.1) = false := by rfl) :
    PE X (.Call (.Attribute o name apos) (e :: es) [] cpos) (tBM K T r to t) := by
  subst hK
  exact pe_bm pa slot hty hm ho ha hbase hfew hline hs hplain
end
end L2

set_option Elab.async false
set_option linter.all false
set_option maxRecDepth 100000
set_option maxHeartbeats 4000000
namespace L2
open PySem PySem.Spec PyProof.Rows
section
variable {X : Cx}
end
section
variable {X : Cx} {tg elt iter : Expr} {g : TG} {ifs : List Expr} {scope : Scope} {pos : Pos} {wi : TI} {ti : TT} {te : TE}
end
/-- a comprehension, by what holds ahead of each item -/
theorem comp_inv {J : It} {xs : List V} {σ' : St} {j : Nat} {ti : TT} {te : TE} {Q : VK} {H : Hp} (W : Wk J xs H) (Pv : Nat → List V → Hp → Prop) (h0 : Pv 0 [] H) (hm : ∀ i ys H3, Pv i ys H3 → Same H H3)
    (hs : ∀ i x ys H3, xs[i]? = some x → Pv i ys H3 → ti (σ'.set j (some x)) H3 fun b H4 => if b = true then te (σ'.set j (some x)) H4 fun y H5 => Pv (i + 1) (ys ++ [y]) H5 else Pv (i + 1) ys H4)
    (hz : ∀ i ys H3, i < xs.length → Pv i ys H3 → ys.length < sizeLine)
    (hd : ∀ ys H3, Pv xs.length ys H3 → ∀ D, H3 D = none → Q (.ref D) (upd H3 D (.lst ys))) : CompW σ' j ti te Q J H := by
  refine ⟨fun i m zs H3 => m = xs.length - i ∧ i ≤ xs.length ∧ Pv i zs H3, ⟨xs.length, by simp, Nat.zero_le _, h0⟩, ?_⟩
  rintro i m zs H3 ⟨rfl, hi, p⟩
  have s3 := hm i zs H3 p
  by_cases hlt : i < xs.length
  · refine .inr ⟨W.go i _ s3 hlt, hz i zs H3 hlt p, Pv (i + 1), fun zs' H' p' => ⟨xs.length - (i + 1), by (first | lia | omega), rfl, hlt, p'⟩, fun x H' y => ?_⟩
    obtain ⟨e, ex⟩ := W.yl i _ x H' s3 hlt y
    subst e
    exact hs i x zs H' ex p
  · have e : i = xs.length := by (first | lia | omega)
    subst e
    exact .inl ⟨W.st _ s3, fun D hD => hd zs H3 p D hD⟩
end L2

set_option Elab.async false
set_option linter.all false
set_option maxRecDepth 100000
set_option maxHeartbeats 4000000
namespace L2
open PySem PySem.Spec PyProof.Rows
section
variable {X : Cx} {pins : List (Addr × Obj)} {σ : St} {H H' : Hp} {s : Shared}
end
section
variable {X : Cx} {pins : List (Addr × Obj)} {σ : St} {H : Hp} {s : Shared} {tg elt iter : Expr} {g : TG} {ifs : List Expr} {scope : Scope} {pos : Pos} {N' : List Str} {ix : List (Option Nat)} {wi : TI} {ti : TT} {te : TE}
end
end L2

set_option Elab.async false
set_option linter.all false
set_option maxRecDepth 100000
set_option maxHeartbeats 4000000
namespace L2
open PySem PySem.Spec PyProof.Rows
section
variable {X : Cx} {K : PySem.W.Frag}
end
end L2

set_option Elab.async false
set_option linter.all false
set_option maxRecDepth 100000
set_option maxHeartbeats 4000000
namespace L2
open PySem PySem.Spec PyProof.Rows
section
variable {X : Cx} {K : PySem.W.Frag}
theorem strs_of : ∀ {ss : List Str} {its : List Value}, Vals (ss.map V.str) its → ∃ l : List (Str × Tok), its = strValues l ∧ l.map (·.1) = ss
  | [], its, h => by cases h; exact ⟨[], rfl, rfl⟩
  | x :: ss, its, h => by
    cases h with
    | cons r rest =>
      obtain ⟨t, rfl⟩ := r
      obtain ⟨l, rfl, rfl⟩ := strs_of rest
      exact ⟨(x, t) :: l, rfl, rfl⟩
/-- sep.join(a list of texts) -/
def rJoin (K : PySem.W.Frag) : V → List V → Hp → VK → Prop := fun x xs H Q => ∃ (sep : Str) (l : Addr) (ss : List Str), x = .str sep ∧ xs = [.ref l] ∧ SqL K H l (ss.map V.str) ∧ JoinOk sep ss = true ∧ Q (.str (Str.join sep ss)) H
theorem mt_join : MtR X "str.join" (rJoin X.K) := by
  intro pins s σ H x xs v us Q I rx rs h
  obtain ⟨sep, l, ss, rfl, rfl, hq, hok, q⟩ := h
  obtain ⟨t, rfl⟩ := rx
  obtain ⟨u, rfl, ru⟩ := vals1 rs
  cases ru
  obtain ⟨its, rv, pl, hz⟩ := I.list hq
  obtain ⟨l', rfl, hl'⟩ := strs_of rv
  refine PySem.SC.join (by have := pl.isList; exact this) hl' hok fun t' k => ?_
  have e : Txt.join sep ss = Str.join sep ss := StrLaws.glued_eq_join sep ss
  rw [e]
  exact ⟨.str _, H, I.tok _, ⟨_, rfl⟩, q⟩
theorem mt_joinK (hK : X.K = K) : MtR X "str.join" (rJoin K) := hK ▸ mt_join
theorem joinOk_of {sep : Str} {ss : List Str} {B : Nat} (hB : ∀ y ∈ ss, y.length ≤ B) (h : ss.length * B + ss.length * sep.length ≤ 16777216) : JoinOk sep ss = true := by
  unfold JoinOk
  rw [StrLaws.joinFits hB h]
  rfl
end
end L2

set_option Elab.async false
set_option linter.all false
set_option maxRecDepth 100000
set_option maxHeartbeats 4000000
namespace Com
theorem gD_set_self {α : Type} {l : List α} {i : Nat} {v d : α} (h : i < l.length) : (l.set i v).getD i d = v := by
  simp [List.getD_eq_getElem?_getD, List.getElem?_set, h]
theorem gD_set_ne {α : Type} {l : List α} {i j : Nat} {v d : α} (h : i ≠ j) : (l.set i v).getD j d = l.getD j d := by
  simp [List.getD_eq_getElem?_getD, List.getElem?_set_ne h]
theorem gD_mem {α : Type} {l : List α} {i : Nat} {d : α} (h : i < l.length) : l.getD i d ∈ l := by
  rw [List.getD_eq_getElem?_getD, List.getElem?_eq_getElem h]
  exact List.getElem_mem h
theorem sum_set : ∀ {l : List Int} {i : Nat} {v : Int}, i < l.length → (l.set i v).sum = l.sum - l.getD i 0 + v
  | [], _, _, h => absurd h (by simp)
  | x :: r, 0, v, _ => by
    simp only [List.set_cons_zero, List.sum_cons, List.getD_cons_zero]
    (first | lia | omega)
  | x :: r, i + 1, v, h => by
    have ih := sum_set (l := r) (i := i) (v := v) (by simpa using h)
    simp only [List.set_cons_succ, List.sum_cons, List.getD_cons_succ]
    (first | lia | omega)
def exitOf (rows : List (List Int)) (ts : List Int) (s : Nat) : Int := (rows.getD s []).getD (ts.getD s 0).toNat 0
def moveL (ls : List Int) (s : Nat) (g : Int) : List Int :=
  if g = -1 then ls.set s (ls.getD s 0 - 1) else (ls.set s (ls.getD s 0 - 1)).set g.toNat ((ls.set s (ls.getD s 0 - 1)).getD g.toNat 0 + 1)
def moveT (z g : Int) : Int := if g = -1 then z + 1 else z
def nextT (rows : List (List Int)) (ts : List Int) (s : Nat) : List Int := ts.set s ((ts.getD s 0 + 1) % ((rows.getD s []).length : Int))
def stepB (b : Brd) (s : Nat) : Brd := ⟨b.rows, nextT b.rows b.turns s, moveL b.loads s (exitOf b.rows b.turns s), b.steps.set s (b.steps.getD s 0 + 1), moveT b.taken (exitOf b.rows b.turns s)⟩
structure BrdOk (b : Brd) : Prop where
  W : Wf b.rows
  T : TurnsOk b.rows b.turns
  L : b.loads.length = b.rows.length
  S : b.steps.length = b.rows.length
  P : ∀ i, 0 ≤ b.loads.getD i 0
theorem le100 {n : Nat} (h : n ≤ 12) : n ≤ 100 := Nat.le_trans h (by decide)
theorem BrdOk.b1 {b : Brd} (O : BrdOk b) : b.rows.length ≤ 100 := le100 O.W.2.1
theorem BrdOk.b2 {b : Brd} (O : BrdOk b) : ∀ r ∈ b.rows, r.length ≤ 100 := fun r hr => Nat.le_trans (O.W.2.2 r hr).2.1 (by decide)
theorem BrdOk.b3 {b : Brd} (O : BrdOk b) : b.turns.length ≤ 100 := by rw [O.T.1]; exact O.b1
theorem BrdOk.b4 {b : Brd} (O : BrdOk b) : b.loads.length ≤ 100 := by rw [O.L]; exact O.b1
theorem BrdOk.b5 {b : Brd} (O : BrdOk b) : b.steps.length ≤ 100 := by rw [O.S]; exact O.b1
theorem exit_in {rows : List (List Int)} {ts : List Int} (W : Wf rows) (T : TurnsOk rows ts) {s : Nat} (h : s < rows.length) : -1 ≤ exitOf rows ts s ∧ exitOf rows ts s < (rows.length : Int) := by
  obtain ⟨t0, t1⟩ := T.2 s h
  have hm : exitOf rows ts s ∈ rows.getD s [] := gD_mem (by (first | lia | omega))
  exact (W.2.2 _ (gD_mem h)).2.2 _ hm
theorem row_len {rows : List (List Int)} (W : Wf rows) {s : Nat} (h : s < rows.length) : 1 ≤ (rows.getD s []).length ∧ (rows.getD s []).length ≤ 8 := ⟨(W.2.2 _ (gD_mem h)).1, (W.2.2 _ (gD_mem h)).2.1⟩
theorem moveL_len (ls : List Int) (s : Nat) (g : Int) : (moveL ls s g).length = ls.length := by
  unfold moveL
  split <;> simp
theorem moveL_nn {ls : List Int} {s : Nat} {g : Int} (h : ∀ i, 0 ≤ ls.getD i 0) (hs : 1 ≤ ls.getD s 0) : ∀ i, 0 ≤ (moveL ls s g).getD i 0 := by
  have h1 : ∀ i, 0 ≤ (ls.set s (ls.getD s 0 - 1)).getD i 0 := fun i => by
    by_cases e : s = i
    · subst e
      by_cases hl : s < ls.length
      · rw [gD_set_self hl]; (first | lia | omega)
      · rw [List.set_eq_of_length_le (by (first | lia | omega))]; exact h s
    · rw [gD_set_ne e]; exact h i
  intro i
  unfold moveL
  split
  · exact h1 i
  · by_cases e : g.toNat = i
    · subst e
      by_cases hl : g.toNat < (ls.set s (ls.getD s 0 - 1)).length
      · rw [gD_set_self hl]; have := h1 g.toNat; (first | lia | omega)
      · rw [List.set_eq_of_length_le (by (first | lia | omega))]; exact h1 _
    · rw [gD_set_ne e]; exact h1 i
theorem nextT_ok {rows : List (List Int)} {ts : List Int} (W : Wf rows) (T : TurnsOk rows ts) {s : Nat} (h : s < rows.length) : TurnsOk rows (nextT rows ts s) := by
  refine ⟨by unfold nextT; rw [List.length_set]; exact T.1, fun i hi => ?_⟩
  unfold nextT
  by_cases e : s = i
  · subst e
    rw [gD_set_self (by rw [T.1]; exact h)]
    have := (row_len W h).1
    exact ⟨Int.emod_nonneg _ (by (first | lia | omega)), Int.emod_lt_of_pos _ (by (first | lia | omega))⟩
  · rw [gD_set_ne e]
    exact T.2 i hi
theorem BrdOk.step {b : Brd} (O : BrdOk b) {s : Nat} (h : s < b.rows.length) (hs : 1 ≤ b.loads.getD s 0) : BrdOk (stepB b s) :=
  ⟨O.W, nextT_ok O.W O.T h, by show (moveL _ _ _).length = _; rw [moveL_len]; exact O.L, by show (List.set _ _ _).length = _; rw [List.length_set]; exact O.S, moveL_nn O.P hs⟩
/-- marbles on the board and taken -/
theorem move_sum {ls : List Int} {s : Nat} {g z : Int} (h : s < ls.length) (h0 : -1 ≤ g) (h1 : g < (ls.length : Int)) : (moveL ls s g).sum + moveT z g = ls.sum + z := by
  unfold moveL moveT
  split
  · rw [sum_set h]; (first | lia | omega)
  · rw [sum_set (by rw [List.length_set]; (first | lia | omega)), sum_set h]
    (first | lia | omega)
theorem step_sum {b : Brd} (O : BrdOk b) {s : Nat} (h : s < b.rows.length) : (stepB b s).loads.sum ≤ b.loads.sum := by
  obtain ⟨x0, x1⟩ := exit_in O.W O.T h
  have := move_sum (z := b.taken) (show s < b.loads.length by rw [O.L]; exact h) x0 (by rw [O.L]; exact x1)
  have h2 : b.taken ≤ moveT b.taken (exitOf b.rows b.turns s) := by unfold moveT; split <;> (first | lia | omega)
  show (moveL b.loads s (exitOf b.rows b.turns s)).sum ≤ _
  (first | lia | omega)
def dropW (c : Int) (f : Int → Int) (r : List Int) (t : Nat) : Int := ((r.take t).map fun e => c - f e - 1).sum
/-- rows on which M marbles have at most 20,000 steps -/
structure Weigh (rows : List (List Int)) (M : Int) (f : Int → Int) (G D1 D2 : Int) : Prop where
  pit : f (-1) = 0
  low : ∀ i, i < rows.length → 0 ≤ f (i : Nat)
  top : ∀ i, i < rows.length → f (i : Nat) ≤ G
  full : ∀ i, i < rows.length → 0 ≤ dropW (f (i : Nat)) f (rows.getD i []) (rows.getD i []).length
  dLow : ∀ i, i < rows.length → ∀ t, t < (rows.getD i []).length → -D1 ≤ dropW (f (i : Nat)) f (rows.getD i []) t
  dTop : ∀ i, i < rows.length → ∀ t, t < (rows.getD i []).length → dropW (f (i : Nat)) f (rows.getD i []) t ≤ D2
  g0 : 0 ≤ G
  all : M * G + (rows.length : Int) * (D1 + D2) ≤ 20000
def Tame (rows : List (List Int)) (M : Int) : Prop := ∃ f G D1 D2, Weigh rows M f G D1 D2
end Com

set_option Elab.async false
set_option linter.all false
set_option maxRecDepth 100000
set_option maxHeartbeats 4000000
namespace Com
def qn (u : Nat → Nat) (n : Nat) : Nat → Nat
  | 0 => 1
  | i + 1 => (1 + u (n - 1 - i)) * qn u n i + 1
theorem qn_pos (u : Nat → Nat) (n : Nat) : ∀ i, 1 ≤ qn u n i
  | 0 => Nat.le_refl _
  | i + 1 => by unfold qn; (first | lia | omega)
theorem qn_succ (u : Nat → Nat) (n i : Nat) : qn u n i + 1 ≤ qn u n (i + 1) := by
  show _ ≤ (1 + u (n - 1 - i)) * qn u n i + 1
  rw [Nat.add_mul]
  (first | lia | omega)
theorem qn_mono (u : Nat → Nat) (n : Nat) {i j : Nat} (h : i ≤ j) : qn u n i ≤ qn u n j := by
  induction j with
  | zero => rw [show i = 0 by (first | lia | omega)]; exact Nat.le_refl _
  | succ j ih =>
    by_cases e : i = j + 1
    · rw [e]; exact Nat.le_refl _
    · have := ih (by (first | lia | omega))
      have := qn_succ u n j
      (first | lia | omega)
def ups (k : Int) (r : List Int) : Nat := (r.filter fun e => decide (k ≤ e)).length
def sumU (u : Nat → Nat) : Nat → Nat
  | 0 => 0
  | n + 1 => sumU u n + u n
theorem qn_small {u : Nat → Nat} {n : Nat} (h : ∀ i, i < n → u i ≤ 2) : ∀ i, i ≤ n → 2 * qn u n i + 1 ≤ 3 ^ (i + 1)
  | 0, _ => by show 2 * 1 + 1 ≤ 3 ^ 1; decide
  | i + 1, hi => by
    have ih := qn_small h i (by (first | lia | omega))
    have hu := h (n - 1 - i) (by (first | lia | omega))
    show 2 * ((1 + u (n - 1 - i)) * qn u n i + 1) + 1 ≤ 3 ^ (i + 1 + 1)
    have := Nat.mul_le_mul_right (qn u n i) (show 1 + u (n - 1 - i) ≤ 3 by (first | lia | omega))
    rw [Nat.pow_succ]
    (first | lia | omega)
theorem qn_big {u : Nat → Nat} {n : Nat} : ∀ i s, i ≤ n → sumU u (n - i) + s = sumU u n → qn u n i ≤ (i + 1) * 2 ^ s
  | 0, s, _, _ => by show 1 ≤ 1 * 2 ^ s; have := Nat.one_le_two_pow (n := s); (first | lia | omega)
  | i + 1, s, hi, hs => by
    have e : n - i = (n - (i + 1)) + 1 := by (first | lia | omega)
    have e2 : sumU u (n - i) = sumU u (n - (i + 1)) + u (n - (i + 1)) := by rw [e]; rfl
    have e3 : sumU u (n - i) ≤ sumU u n := by
      have key : ∀ a b, a ≤ b → sumU u a ≤ sumU u b := by
        intro a b h
        induction b with
        | zero => rw [show a = 0 by (first | lia | omega)]; exact Nat.le_refl _
        | succ b ih =>
          by_cases z : a = b + 1
          · rw [z]; exact Nat.le_refl _
          · have := ih (by (first | lia | omega))
            show sumU u a ≤ sumU u b + u b
            (first | lia | omega)
      exact key _ _ (by (first | lia | omega))
    have ih := qn_big (u := u) (n := n) i (sumU u n - sumU u (n - i)) (by (first | lia | omega)) (by (first | lia | omega))
    have e4 : s = u (n - 1 - i) + (sumU u n - sumU u (n - i)) := by
      rw [show n - 1 - i = n - (i + 1) by (first | lia | omega)]; (first | lia | omega)
    show (1 + u (n - 1 - i)) * qn u n i + 1 ≤ (i + 1 + 1) * 2 ^ s
    rw [e4, Nat.pow_add]
    generalize sumU u n - sumU u (n - i) = s' at ih
    generalize u (n - 1 - i) = v
    have hv : 1 + v ≤ 2 ^ v := by have := Nat.lt_two_pow_self (n := v); (first | lia | omega)
    have g1 : (1 + v) * qn u n i ≤ 2 ^ v * ((i + 1) * 2 ^ s') := Nat.mul_le_mul hv ih
    have g2 : 2 ^ v * ((i + 1) * 2 ^ s') = (i + 1) * (2 ^ v * 2 ^ s') := by rw [Nat.mul_left_comm]
    have g3 : 1 ≤ 2 ^ v * 2 ^ s' := Nat.mul_pos Nat.one_le_two_pow Nat.one_le_two_pow
    rw [Nat.add_mul (i + 1) 1]
    (first | lia | omega)
theorem drop_lo (g : Int → Int) (k X : Int) : ∀ r : List Int, (∀ e ∈ r, e < k → 0 ≤ g e) → (∀ e ∈ r, k ≤ e → -X ≤ g e) → -((ups k r : Int) * X) ≤ (r.map g).sum
  | [], _, _ => by simp [ups]
  | e :: r, h1, h2 => by
    have ih := drop_lo g k X r (fun x hx => h1 x (List.mem_cons_of_mem _ hx)) (fun x hx => h2 x (List.mem_cons_of_mem _ hx))
    rw [List.map_cons, List.sum_cons]
    by_cases z : k ≤ e
    · have : ups k (e :: r) = ups k r + 1 := by simp [ups, z]
      rw [this, show ((ups k r + 1 : Nat) : Int) = (ups k r : Int) + 1 by (first | lia | omega), Int.add_mul]
      have := h2 e List.mem_cons_self z
      (first | lia | omega)
    · have : ups k (e :: r) = ups k r := by unfold ups; rw [List.filter_cons_of_neg (by simpa using z)]
      rw [this]
      have := h1 e List.mem_cons_self (by (first | lia | omega))
      (first | lia | omega)
theorem drop_one (g : Int → Int) (k X Y : Int) (hY : 0 ≤ Y) : ∀ r : List Int, (∃ e ∈ r, e < k) → (∀ e ∈ r, e < k → Y ≤ g e) → (∀ e ∈ r, k ≤ e → -X ≤ g e) → Y - (ups k r : Int) * X ≤ (r.map g).sum
  | [], ⟨e, he, _⟩, _, _ => by cases he
  | e :: r, hx, h1, h2 => by
    rw [List.map_cons, List.sum_cons]
    by_cases z : k ≤ e
    · have : ups k (e :: r) = ups k r + 1 := by simp [ups, z]
      rw [this, show ((ups k r + 1 : Nat) : Int) = (ups k r : Int) + 1 by (first | lia | omega), Int.add_mul]
      have ih := drop_one g k X Y hY r (by
        obtain ⟨x, hx, hl⟩ := hx
        rcases List.mem_cons.mp hx with y | y
        · (first | lia | omega)
        · exact ⟨x, y, hl⟩) (fun x hx => h1 x (List.mem_cons_of_mem _ hx)) (fun x hx => h2 x (List.mem_cons_of_mem _ hx))
      have := h2 e List.mem_cons_self z
      (first | lia | omega)
    · have : ups k (e :: r) = ups k r := by unfold ups; rw [List.filter_cons_of_neg (by simpa using z)]
      rw [this]
      have ih := drop_lo g k X r (fun x hx hl => Int.le_trans hY (h1 x (List.mem_cons_of_mem _ hx) hl)) (fun x hx => h2 x (List.mem_cons_of_mem _ hx))
      have := h1 e List.mem_cons_self (by (first | lia | omega))
      (first | lia | omega)
theorem drop_hi (g : Int → Int) (G : Int) (hG : 0 ≤ G) : ∀ r : List Int, (∀ e ∈ r, g e ≤ G) → (r.map g).sum ≤ (r.length : Int) * G
  | [], _ => by simp
  | e :: r, h => by
    have ih := drop_hi g G hG r fun x hx => h x (List.mem_cons_of_mem _ hx)
    have := h e List.mem_cons_self
    rw [List.map_cons, List.sum_cons, List.length_cons, show ((r.length + 1 : Nat) : Int) = (r.length : Int) + 1 by (first | lia | omega), Int.add_mul]
    (first | lia | omega)
theorem ups_take (k : Int) (r : List Int) (t : Nat) : ups k (r.take t) ≤ ups k r := ((List.take_sublist t r).filter _).length_le
def Shape (rows : List (List Int)) (u : Nat → Nat) : Prop := ∀ k, k < rows.length → ups (k : Nat) (rows.getD k []) ≤ u k ∧ u k ≤ 3 ∧ ∃ e ∈ rows.getD k [], e < (k : Int)
theorem term_of {n e i : Int} {qn0 qe qi u : Int} (k4 : e < i → (1 + u) * qi + 1 ≤ qe) (k1 : 1 ≤ qe) (k3 : qe ≤ qn0) (k2 : 1 ≤ qi) : (e < i → u * qi ≤ (qn0 - qi) - (qn0 - qe) - 1) ∧ (i ≤ e → -qi ≤ (qn0 - qi) - (qn0 - qe) - 1) ∧ (qn0 - qi) - (qn0 - qe) - 1 ≤ qn0 - 1 := by
  refine ⟨fun h => ?_, fun _ => by (first | lia | omega), by (first | lia | omega)⟩
  have := k4 h
  rw [Int.add_mul] at this
  (first | lia | omega)
theorem shape_tame {rows : List (List Int)} {u : Nat → Nat} {M : Int} (W : Wf rows) (S : Shape rows u) (hb : (M + 10 * (rows.length : Int)) * ((qn u rows.length rows.length : Int) - 1) ≤ 20000) : Tame rows M := by
  generalize hn : rows.length = n at hb
  have q1 : ∀ i, 1 ≤ qn u n i := qn_pos u n
  have qm : ∀ {i j : Nat}, i ≤ j → qn u n i ≤ qn u n j := fun {i j} h => qn_mono u n h
  have qs : ∀ i, i < n → qn u n (n - 1 - i + 1) = (1 + u i) * qn u n (n - 1 - i) + 1 := fun i hi => by
    show (1 + u (n - 1 - (n - 1 - i))) * qn u n (n - 1 - i) + 1 = _
    rw [show n - 1 - (n - 1 - i) = i by (first | lia | omega)]
  have qt : ∀ i, i < n → qn u n (n - 1 - i) + 1 ≤ qn u n n := fun i hi => Nat.le_trans (qn_succ u n (n - 1 - i)) (qm (by (first | lia | omega)))
  generalize qn u n = q at q1 qm qs qt hb
  have gn : (1 : Int) ≤ q n := by have := q1 n; (first | lia | omega)
  have fk : ∀ i : Nat, (q n : Int) - (q ((n : Int) - 1 - (i : Nat)).toNat : Int) = (q n : Int) - (q (n - 1 - i) : Int) := fun i => by
    rw [show ((n : Int) - 1 - (i : Nat)).toNat = n - 1 - i by (first | lia | omega)]
  have hex : ∀ i, i < n → ∀ e ∈ rows.getD i [], -1 ≤ e ∧ e < (n : Int) := fun i hi e he => by
    have := (W.2.2 _ (gD_mem (show i < rows.length by rw [hn]; exact hi))).2.2 e he
    rw [hn] at this
    exact this
  have hlen : ∀ i, i < n → (rows.getD i []).length ≤ 8 := fun i hi => (row_len W (by rw [hn]; exact hi)).2
  have hsh : ∀ i, i < n → ups (i : Nat) (rows.getD i []) ≤ u i ∧ u i ≤ 3 ∧ ∃ e ∈ rows.getD i [], e < (i : Int) := fun i hi => S i (by rw [hn]; exact hi)
  clear S W
  have term : ∀ i, i < n → ∀ e ∈ rows.getD i [], (e < (i : Int) → (u i : Int) * (q (n - 1 - i) : Int) ≤ ((q n : Int) - (q (n - 1 - i) : Int)) - ((q n : Int) - (q ((n : Int) - 1 - e).toNat : Int)) - 1) ∧ (((i : Nat) : Int) ≤ e → -(q (n - 1 - i) : Int) ≤ ((q n : Int) - (q (n - 1 - i) : Int)) - ((q n : Int) - (q ((n : Int) - 1 - e).toNat : Int)) - 1) ∧ ((q n : Int) - (q (n - 1 - i) : Int)) - ((q n : Int) - (q ((n : Int) - 1 - e).toNat : Int)) - 1 ≤ (q n : Int) - 1 := fun i hi e he => by
    obtain ⟨e0, e1⟩ := hex i hi e he
    have k1 := q1 ((n : Int) - 1 - e).toNat
    have k2 := q1 (n - 1 - i)
    have k3 : q ((n : Int) - 1 - e).toNat ≤ q n := qm (by (first | lia | omega))
    refine term_of (n := n) (fun h => ?_) (by (first | lia | omega)) (by (first | lia | omega)) (by (first | lia | omega))
    have k4 : q (n - 1 - i + 1) ≤ q ((n : Int) - 1 - e).toNat := qm (by (first | lia | omega))
    rw [qs i hi] at k4
    have k5 : (((1 + u i) * q (n - 1 - i) + 1 : Nat) : Int) ≤ (q ((n : Int) - 1 - e).toNat : Int) := Int.ofNat_le.mpr k4
    simpa using k5
  refine ⟨fun e => (q n : Int) - (q ((n : Int) - 1 - e).toNat : Int), (q n : Int) - 1, 3 * ((q n : Int) - 1), 7 * ((q n : Int) - 1), ?_⟩
  refine ⟨?_, fun i hi => ?_, fun i hi => ?_, fun i hi => ?_, fun i hi t ht => ?_, fun i hi t ht => ?_, by (first | lia | omega), ?_⟩
  · show (q n : Int) - (q ((n : Int) - 1 - -1).toNat : Int) = 0
    rw [show ((n : Int) - 1 - -1).toNat = n by (first | lia | omega)]
    (first | lia | omega)
  · rw [hn] at hi
    rw [fk]
    have := qt i hi
    (first | lia | omega)
  · rw [hn] at hi
    rw [fk]
    have := q1 (n - 1 - i)
    (first | lia | omega)
  · rw [hn] at hi
    obtain ⟨s1, s2, s3⟩ := hsh i hi
    have z := drop_one (fun e => ((q n : Int) - (q (n - 1 - i) : Int)) - ((q n : Int) - (q ((n : Int) - 1 - e).toNat : Int)) - 1) (i : Nat) (q (n - 1 - i) : Int) ((u i : Int) * (q (n - 1 - i) : Int)) (Int.mul_nonneg (Int.natCast_nonneg _) (Int.natCast_nonneg _)) (rows.getD i []) s3 (fun e he => (term i hi e he).1) (fun e he => (term i hi e he).2.1)
    unfold dropW
    dsimp only
    rw [List.take_length, fk]
    have m : (ups (i : Nat) (rows.getD i []) : Int) * (q (n - 1 - i) : Int) ≤ (u i : Int) * (q (n - 1 - i) : Int) := Int.mul_le_mul_of_nonneg_right (Int.ofNat_le.mpr s1) (Int.natCast_nonneg _)
    exact Int.le_trans (Int.sub_nonneg.mpr m) z
  · rw [hn] at hi
    obtain ⟨s1, s2, s3⟩ := hsh i hi
    have z := drop_lo (fun e => ((q n : Int) - (q (n - 1 - i) : Int)) - ((q n : Int) - (q ((n : Int) - 1 - e).toNat : Int)) - 1) (i : Nat) (q (n - 1 - i) : Int) ((rows.getD i []).take t) (fun e he h => Int.le_trans (Int.mul_nonneg (Int.natCast_nonneg _) (Int.natCast_nonneg _)) ((term i hi e (List.mem_of_mem_take he)).1 h)) (fun e he => (term i hi e (List.mem_of_mem_take he)).2.1)
    have z2 : ups (i : Nat) ((rows.getD i []).take t) ≤ 3 := Nat.le_trans (ups_take (i : Nat) (rows.getD i []) t) (Nat.le_trans s1 s2)
    have z3 := qt i hi
    have m : (ups (i : Nat) ((rows.getD i []).take t) : Int) * (q (n - 1 - i) : Int) ≤ 3 * ((q n : Int) - 1) := Int.mul_le_mul (Int.ofNat_le.mpr z2) (by (first | lia | omega)) (Int.natCast_nonneg _) (by decide)
    unfold dropW
    dsimp only
    rw [fk]
    exact Int.le_trans (Int.neg_le_neg m) z
  · rw [hn] at hi
    have hl := hlen i hi
    have z := drop_hi (fun e => ((q n : Int) - (q (n - 1 - i) : Int)) - ((q n : Int) - (q ((n : Int) - 1 - e).toNat : Int)) - 1) ((q n : Int) - 1) (by (first | lia | omega)) ((rows.getD i []).take t) (fun e he => (term i hi e (List.mem_of_mem_take he)).2.2)
    rw [List.length_take] at z
    have m : ((min t (rows.getD i []).length : Nat) : Int) * ((q n : Int) - 1) ≤ 7 * ((q n : Int) - 1) := Int.mul_le_mul_of_nonneg_right (by (first | lia | omega)) (by (first | lia | omega))
    unfold dropW
    dsimp only
    rw [fk]
    exact Int.le_trans z m
  · rw [hn]
    have e : M * ((q n : Int) - 1) + (n : Int) * (3 * ((q n : Int) - 1) + 7 * ((q n : Int) - 1)) = (M + 10 * (n : Int)) * ((q n : Int) - 1) := by
      rw [← Int.add_mul, Int.add_mul M, ← Int.mul_assoc, Int.mul_comm (n : Int) (3 + 7)]
      rfl
    rw [e]
    exact hb
theorem tame_small {rows : List (List Int)} {u : Nat → Nat} (W : Wf rows) (S : Shape rows u) (hn : rows.length ≤ 4) (hu : ∀ i, i < rows.length → u i ≤ 2) : Tame rows 30 := by
  refine shape_tame W S ?_
  have h := qn_small hu rows.length (Nat.le_refl _)
  have h3 : (3 : Nat) ^ (rows.length + 1) ≤ 3 ^ 5 := Nat.pow_le_pow_right (by decide) (by (first | lia | omega))
  have h4 : (3 : Nat) ^ 5 = 243 := by decide
  have hp := qn_pos u rows.length rows.length
  exact Int.le_trans (Int.mul_le_mul (show (30 : Int) + 10 * (rows.length : Int) ≤ 70 by (first | lia | omega)) (show (qn u rows.length rows.length : Int) - 1 ≤ 120 by (first | lia | omega)) (by (first | lia | omega)) (by decide)) (by decide)
theorem tame_big {rows : List (List Int)} {u : Nat → Nat} (W : Wf rows) (S : Shape rows u) (hu : sumU u rows.length ≤ 3) : Tame rows 30 := by
  refine shape_tame W S ?_
  have h := qn_big (u := u) (n := rows.length) rows.length (sumU u rows.length) (Nat.le_refl _) (by simp [sumU])
  have hn := W.2.1
  have hp := qn_pos u rows.length rows.length
  have h2 : (2 : Nat) ^ sumU u rows.length ≤ 2 ^ 3 := Nat.pow_le_pow_right (by decide) hu
  have h3 : (rows.length + 1) * 2 ^ sumU u rows.length ≤ 13 * 8 := Nat.mul_le_mul (by (first | lia | omega)) h2
  exact Int.le_trans (Int.mul_le_mul (show (30 : Int) + 10 * (rows.length : Int) ≤ 150 by (first | lia | omega)) (show (qn u rows.length rows.length : Int) - 1 ≤ 103 by (first | lia | omega)) (by (first | lia | omega)) (by decide)) (by decide)
theorem sumU_zero : ∀ n, sumU (fun _ => 0) n = 0
  | 0 => rfl
  | n + 1 => by show sumU (fun _ => 0) n + 0 = 0; rw [sumU_zero n]
def othC (n g : Int) : Int := if g < 0 then g else n - 1 - g
def revRows (rows : List (List Int)) : List (List Int) := rows.reverse.map fun r => r.map (othC rows.length)
theorem revRows_len (rows : List (List Int)) : (revRows rows).length = rows.length := by unfold revRows; simp
theorem revRows_get {rows : List (List Int)} {i : Nat} (h : i < rows.length) : (revRows rows).getD i [] = (rows.getD (rows.length - 1 - i) []).map (othC rows.length) := by
  unfold revRows
  rw [List.getD_eq_getElem?_getD, List.getElem?_map, List.getElem?_reverse h, List.getElem?_eq_getElem (by (first | lia | omega)), List.getD_eq_getElem?_getD, List.getElem?_eq_getElem (by (first | lia | omega))]
  rfl
theorem tame_rev {rows : List (List Int)} {M : Int} (W : Wf rows) (T : Tame rows M) : Tame (revRows rows) M := by
  obtain ⟨f, G, D1, D2, w⟩ := T
  have ff : ∀ i, i < rows.length → f (othC rows.length (i : Nat)) = f ((rows.length - 1 - i : Nat) : Int) := fun i hi => by
    unfold othC
    rw [if_neg (by (first | lia | omega)), show (rows.length : Int) - 1 - (i : Nat) = ((rows.length - 1 - i : Nat) : Int) by (first | lia | omega)]
  have dd : ∀ i, i < rows.length → ∀ t, dropW (f (othC rows.length (i : Nat))) (fun e => f (othC rows.length e)) ((revRows rows).getD i []) t = dropW (f ((rows.length - 1 - i : Nat) : Int)) f (rows.getD (rows.length - 1 - i) []) t := fun i hi t => by
    unfold dropW
    rw [revRows_get hi, ff i hi, ← List.map_take, List.map_map]
    refine congrArg List.sum (List.map_congr_left fun e he => ?_)
    obtain ⟨e0, e1⟩ := (W.2.2 _ (gD_mem (show rows.length - 1 - i < rows.length by (first | lia | omega)))).2.2 e (List.mem_of_mem_take he)
    show _ - f (othC rows.length (othC rows.length e)) - 1 = _
    have : othC rows.length (othC rows.length e) = e := by
      unfold othC
      by_cases h : e < 0
      · rw [if_pos h, if_pos h]
      · rw [if_neg h, if_neg (by (first | lia | omega))]
        (first | lia | omega)
    rw [this]
  have ll : ∀ i, i < rows.length → ((revRows rows).getD i []).length = (rows.getD (rows.length - 1 - i) []).length := fun i hi => by rw [revRows_get hi, List.length_map]
  refine ⟨fun e => f (othC rows.length e), G, D1, D2, ?_⟩
  refine ⟨w.pit, fun i hi => ?_, fun i hi => ?_, fun i hi => ?_, fun i hi t ht => ?_, fun i hi t ht => ?_, w.g0, by rw [revRows_len]; exact w.all⟩
  all_goals rw [revRows_len] at hi
  · show 0 ≤ f (othC rows.length (i : Nat)); rw [ff i hi]; exact w.low _ (by (first | lia | omega))
  · show f (othC rows.length (i : Nat)) ≤ G; rw [ff i hi]; exact w.top _ (by (first | lia | omega))
  · show 0 ≤ dropW (f (othC rows.length (i : Nat))) (fun e => f (othC rows.length e)) _ _; rw [dd i hi, ll i hi]; exact w.full _ (by (first | lia | omega))
  · show _ ≤ dropW (f (othC rows.length (i : Nat))) (fun e => f (othC rows.length e)) _ _; rw [dd i hi]; exact w.dLow _ (by (first | lia | omega)) t (by rw [ll i hi] at ht; exact ht)
  · show dropW (f (othC rows.length (i : Nat))) (fun e => f (othC rows.length e)) _ _ ≤ _; rw [dd i hi]; exact w.dTop _ (by (first | lia | omega)) t (by rw [ll i hi] at ht; exact ht)
theorem ups_zero {k : Int} {r : List Int} (h : ∀ e ∈ r, e < k) : ups k r = 0 := by
  unfold ups
  rw [List.length_eq_zero_iff, List.filter_eq_nil_iff]
  intro e he
  have := h e he
  simpa using by (first | lia | omega)
theorem ups_small {k : Int} {r : List Int} (hl : r.length ≤ 3) (h : ∃ e ∈ r, e < k) : ups k r ≤ 2 := by
  have : ups k r < r.length := by
    unfold ups
    rw [List.length_filter_lt_length_iff_exists]
    obtain ⟨e, he, hlt⟩ := h
    exact ⟨e, he, by simpa using hlt⟩
  (first | lia | omega)
theorem ups_ins (k : Int) (r : List Int) (i : Nat) (x : Int) : ups k (r.take i ++ x :: r.drop i) ≤ ups k r + 1 := by
  have e : ups k r = ups k (r.take i) + ups k (r.drop i) := by
    unfold ups
    rw [← List.length_append, ← List.filter_append, List.take_append_drop]
  have e2 : ups k (r.take i ++ x :: r.drop i) ≤ ups k (r.take i) + (ups k (r.drop i) + 1) := by
    unfold ups
    rw [List.filter_append, List.length_append]
    refine Nat.add_le_add_left ?_ _
    by_cases z : k ≤ x
    · simp [z]
    · simp [z]
  (first | lia | omega)
theorem shape_nil (u : Nat → Nat) : Shape [] u := fun k h => by simp at h
theorem shape_snoc {rows : List (List Int)} {r : List Int} {u : Nat → Nat} (h : Shape rows u) (h1 : ups (rows.length : Nat) r ≤ u rows.length) (h2 : u rows.length ≤ 3) (h3 : ∃ e ∈ r, e < (rows.length : Int)) : Shape (rows ++ [r]) u := fun i hi => by
  rw [List.length_append, List.length_singleton] at hi
  by_cases hlt : i < rows.length
  · rw [List.getD_eq_getElem?_getD, List.getElem?_append_left hlt, ← List.getD_eq_getElem?_getD]
    exact h i hlt
  · have e2 : i = rows.length := by (first | lia | omega)
    subst e2
    rw [List.getD_eq_getElem?_getD, List.getElem?_append_right (Nat.le_refl _), Nat.sub_self]
    exact ⟨h1, h2, h3⟩
theorem sumU_upd {u : Nat → Nat} {c : Nat} : ∀ n, sumU (fun k => if k = c then u k + 1 else u k) n = sumU u n + (if c < n then 1 else 0)
  | 0 => by simp [sumU]
  | n + 1 => by
    show sumU (fun k => if k = c then u k + 1 else u k) n + (if n = c then u n + 1 else u n) = sumU u n + u n + _
    rw [sumU_upd n]
    by_cases e : n = c
    · subst e; simp; (first | lia | omega)
    · rw [if_neg e]
      by_cases z : c < n
      · rw [if_pos z, if_pos (by (first | lia | omega))]; (first | lia | omega)
      · rw [if_neg z, if_neg (by (first | lia | omega))]; (first | lia | omega)
theorem le_sumU {u : Nat → Nat} {c : Nat} : ∀ n, c < n → u c ≤ sumU u n
  | 0, h => by (first | lia | omega)
  | n + 1, h => by
    show u c ≤ sumU u n + u n
    by_cases e : c = n
    · subst e; (first | lia | omega)
    · have := le_sumU (u := u) n (show c < n by (first | lia | omega)); (first | lia | omega)
theorem shape_ins {rows : List (List Int)} {u : Nat → Nat} {c i j : Nat} {x : Int} (h : Shape rows u) (hc : c < rows.length) (hs : sumU u rows.length ≤ j) (hj : j ≤ 2) : ∃ u', Shape (rows.set c ((rows[c]).take i ++ x :: (rows[c]).drop i)) u' ∧ sumU u' rows.length ≤ j + 1 := by
  refine ⟨fun k => if k = c then u k + 1 else u k, fun k hk => ?_, by rw [sumU_upd, if_pos hc]; (first | lia | omega)⟩
  rw [List.length_set] at hk
  obtain ⟨h1, h2, e, h3, h4⟩ := h k hk
  by_cases z : c = k
  · subst z
    have eg : rows.getD c [] = rows[c] := by rw [List.getD_eq_getElem?_getD, List.getElem?_eq_getElem hk]; rfl
    rw [gD_set_self hk]
    dsimp only
    rw [if_pos rfl]
    rw [eg] at h1 h3
    refine ⟨Nat.le_trans (ups_ins _ _ _ _) (by (first | lia | omega)), ?_, e, ?_, h4⟩
    · have := le_sumU (u := u) (c := c) rows.length hk; (first | lia | omega)
    · have : e ∈ (rows[c]).take i ++ (rows[c]).drop i := by rw [List.take_append_drop]; exact h3
      rcases List.mem_append.mp this with y | y
      · exact List.mem_append.mpr (.inl y)
      · exact List.mem_append.mpr (.inr (List.mem_cons_of_mem _ y))
  · rw [gD_set_ne z]
    dsimp only
    rw [if_neg (Ne.symm z)]
    exact ⟨h1, h2, e, h3, h4⟩
theorem Shape.step {rows : List (List Int)} {u : Nat → Nat} (h : Shape rows u) (W : ∀ r ∈ rows, ∀ e ∈ r, -1 ≤ e) : ∀ i, i < rows.length → ∃ e ∈ rows.getD i [], -1 ≤ e ∧ e < (i : Int) := fun i hi => by
  obtain ⟨_, _, e, h3, h4⟩ := h i hi
  exact ⟨e, h3, W _ (gD_mem hi) e h3, h4⟩
end Com

set_option Elab.async false
set_option linter.all false
set_option maxRecDepth 100000
set_option maxHeartbeats 4000000
namespace Com
end Com

set_option Elab.async false
set_option linter.all false
set_option maxRecDepth 100000
set_option maxHeartbeats 4000000
namespace Com
end Com

set_option Elab.async false
set_option linter.all false
set_option maxRecDepth 100000
set_option maxHeartbeats 4000000
namespace Com
open PySem L2
def numS (i : Int) : Str := Str.ofString (toString i)
def wordS (e : Int) : Str := if e = -1 then Str.ofString "pit" else numS e
def lineW (t l s : Int) (r : List Int) : List Str := [numS t, numS l, numS s] ++ [Str.ofString ">"] ++ r.map wordS
def lineS (t l s : Int) (r : List Int) : Str := Str.join (Str.ofString " ") (lineW t l s r)
def headS (w : Int) : Str := Str.ofString "board" ++ Str.ofString " " ++ numS w
def siteS (b : Brd) (i : Nat) : Str := lineS (b.turns.getD i 0) (b.loads.getD i 0) (b.steps.getD i 0) (b.rows.getD i [])
def linesS (b : Brd) : List Str := headS b.taken :: (List.range b.rows.length).map (siteS b)
def textS (b : Brd) : Str := Str.join (Str.ofString "\n") (linesS b)
def Sm (i : Int) : Prop := i.natAbs < 10 ^ 30
theorem numS_len {i : Int} (h : Sm i) : (numS i).length ≤ 31 := by
  unfold numS
  rw [PySem.ofString_length]
  exact int_text_length_le10 (by decide) h
theorem Sm.log {i : Int} (h : Sm i) : i.natAbs.log2 < 1920 := by
  by_cases h0 : i.natAbs = 0
  · rw [h0]; decide
  · refine (Nat.log2_lt h0).mpr (Nat.lt_of_lt_of_le h ?_)
    decide +kernel
theorem sm_of {i : Int} (h : -1000000 ≤ i) (h2 : i ≤ 1000000) : Sm i := by
  show i.natAbs < 1000000000000000000000000000000
  (first | lia | omega)
theorem wordS_len {e : Int} (h : Sm e) : (wordS e).length ≤ 31 := by
  unfold wordS
  split
  · decide +kernel
  · exact numS_len h
theorem join_len (sep : Str) {B : Nat} : ∀ {l : List Str}, (∀ y ∈ l, y.length ≤ B) → (Str.join sep l).length ≤ l.length * (B + sep.length)
  | [], _ => by simp [Str.join, Str.length, Str.empty]
  | [x], h => by
    have := h x List.mem_cons_self
    show x.length ≤ 1 * (B + sep.length)
    (first | lia | omega)
  | x :: y :: r, h => by
    have h1 := h x List.mem_cons_self
    have h2 := join_len sep (l := y :: r) fun z hz => h z (List.mem_cons_of_mem _ hz)
    show (x ++ sep ++ Str.join sep (y :: r)).length ≤ _
    rw [Str.length_append, Str.length_append, List.length_cons, Nat.add_mul, Nat.one_mul]
    (first | lia | omega)
theorem join_snoc (sep : Str) : ∀ {l : List Str} (x : Str), l ≠ [] → Str.join sep (l ++ [x]) = Str.join sep l ++ sep ++ x
  | [], _, h => absurd rfl h
  | [y], x, _ => rfl
  | y :: z :: r, x, _ => by
    have ih := join_snoc sep (l := z :: r) x (by simp)
    show y ++ sep ++ Str.join sep ((z :: r) ++ [x]) = y ++ sep ++ Str.join sep (z :: r) ++ sep ++ x
    rw [ih]
    simp only [Str.append_assoc]
theorem lineW_len {t l s : Int} {r : List Int} (h1 : Sm t) (h2 : Sm l) (h3 : Sm s) (hr : ∀ e ∈ r, Sm e) : ∀ y ∈ lineW t l s r, y.length ≤ 31 := fun y hy => by
  unfold lineW at hy
  simp only [List.mem_append, List.mem_cons, List.not_mem_nil, or_false] at hy
  rcases hy with ((rfl | rfl | rfl) | rfl) | hy
  · exact numS_len h1
  · exact numS_len h2
  · exact numS_len h3
  · decide +kernel
  · obtain ⟨e, he, rfl⟩ := List.mem_map.mp hy
    exact wordS_len (hr e he)
structure BSm (b : Brd) : Prop where
  O : BrdOk b
  k : Sm b.taken
  l : ∀ i, Sm (b.loads.getD i 0)
  s : ∀ i, Sm (b.steps.getD i 0)
theorem BSm.t {b : Brd} (S : BSm b) {i : Nat} (hi : i < b.rows.length) : Sm (b.turns.getD i 0) := by
  obtain ⟨a, c⟩ := S.O.T.2 i hi
  have := row_len S.O.W hi
  exact sm_of (by (first | lia | omega)) (by (first | lia | omega))
theorem BSm.r {b : Brd} (S : BSm b) {i : Nat} (hi : i < b.rows.length) : ∀ e ∈ b.rows.getD i [], Sm e := fun e he => by
  have := (S.O.W.2.2 _ (gD_mem hi)).2.2 e he
  have := S.O.W.2.1
  exact sm_of (by (first | lia | omega)) (by (first | lia | omega))
theorem BSm.line {b : Brd} (S : BSm b) {i : Nat} (hi : i < b.rows.length) : (siteS b i).length ≤ 400 := by
  have h := join_len (Str.ofString " ") (lineW_len (S.t hi) (S.l i) (S.s i) (S.r hi))
  have hl : (lineW (b.turns.getD i 0) (b.loads.getD i 0) (b.steps.getD i 0) (b.rows.getD i [])).length ≤ 12 := by
    unfold lineW
    have := (row_len S.O.W hi).2
    rw [List.length_append, List.length_append, List.length_map]
    show 3 + 1 + _ ≤ 12
    (first | lia | omega)
  have e : (Str.ofString " ").length = 1 := by decide +kernel
  rw [e] at h
  show (Str.join (Str.ofString " ") _).length ≤ 400
  have : (lineW (b.turns.getD i 0) (b.loads.getD i 0) (b.steps.getD i 0) (b.rows.getD i [])).length * (31 + 1) ≤ 12 * (31 + 1) := Nat.mul_le_mul hl (Nat.le_refl _)
  (first | lia | omega)
theorem head_len {w : Int} (h : Sm w) : (headS w).length ≤ 40 := by
  unfold headS
  rw [Str.length_append, Str.length_append]
  have := numS_len h
  have e : (Str.ofString " ").length = 1 := by decide +kernel
  have e2 : (Str.ofString "board").length = 5 := by decide +kernel
  (first | lia | omega)
theorem BSm.lines {b : Brd} (S : BSm b) : ∀ y ∈ linesS b, y.length ≤ 400 := fun y hy => by
  unfold linesS at hy
  rcases List.mem_cons.mp hy with rfl | hy
  · exact Nat.le_trans (head_len S.k) (by decide)
  · obtain ⟨i, hi, rfl⟩ := List.mem_map.mp hy
    exact S.line (List.mem_range.mp hi)
theorem size_of {n : Nat} (h : n ≤ 1000000) : n ≤ sizeLine := Nat.le_trans h (by decide +kernel)
theorem lines_get {b : Brd} {i : Nat} (h : i < b.rows.length) : (linesS b).take (i + 2) = (linesS b).take (i + 1) ++ [siteS b i] := by
  unfold linesS
  rw [List.take_succ_cons, List.take_succ_cons, List.take_add_one, List.getElem?_map, List.getElem?_range h]
  rfl
theorem nl_len : (Str.ofString "\n").length = 1 := by decide +kernel
theorem sp_len : (Str.ofString " ").length = 1 := by decide +kernel
end Com

set_option Elab.async false
set_option linter.all false
set_option maxRecDepth 100000
set_option maxHeartbeats 4000000
namespace L2
open PySem PySem.Spec PyProof.Rows
section
variable {X : Cx} {K : PySem.W.Frag}
def Its (x : Str) : It := ⟨fun i _ => i < x.length, fun i H v H' => H' = H ∧ ∃ c, x.cps[i]? = some c ∧ v = .str ⟨#[c]⟩, fun i _ => x.length ≤ i⟩
theorem turn_str {P : Program} {w : World} {tg : Expr} (x : Str) (t : Tok) (it : Addr) : Turn P w K tg (Its x) [it] it (fun i h => h.IsStrIter it "str_ascii_iterator" x t i) where
  mem := by simp
  obj := fun i h st b hb => by
    have e : b = it := by simpa using hb
    subst e
    obtain ⟨o, e, c, d⟩ := st
    exact ⟨o, e, fun v z => by rw [d] at z; cases z⟩
  keep := fun i h h' st k => by
    obtain ⟨o, e, r⟩ := st
    exact ⟨o, k it (by simp) o e, r⟩
  item := by
    intro X hP hw hK hc i pins s σ H E I hf st hg
    subst hP hw hK
    have hi : i < x.cps.size := hg
    obtain ⟨f0, f1, f2, f3, f4, f5⟩ := hf it (by simp)
    refine wpAny_pyNext_ascii_item st (c := x.cps[i]) (by simp [hi]) fun h' st' sb => ?_
    have I1 : Inv X pins σ H { s with heap := h', toks := s.toks + 1 } := I.turned (t' := s.toks + 1) (fun b o hb e => (sb.2 b hb).trans e) f0 f1 f3 f4 f5
    obtain ⟨o, e, c, d⟩ := id st'
    exact ⟨_, rfl, go_of (s := { s with heap := h', toks := s.toks + 1 }) e c d (by decide) ⟨.str ⟨#[x.cps[i]]⟩, H, I1, ⟨_, rfl⟩, ⟨rfl, _, by simp [hi], rfl⟩, st', fun b hb => (hf b hb).1⟩⟩
  done := by
    intro X hP hw hK hc i pins s σ H E I hf st hg
    subst hP hw hK
    have hi : x.cps.size ≤ i := hg
    obtain ⟨f0, f1, f2, f3, f4, f5⟩ := hf it (by simp)
    exact wpAny_pyNext_ascii_end (I.ok.hd hc) st (by simp [hi]) fun h' eb => ⟨rfl, I.turned (t' := s.toks) (fun b o hb e => eb b o hb e) f0 f1 f3 f4 f5⟩
  self := fun _ _ _ _ _ st h => wpAny_pyIter_striter_ascii st h
def iStr (tl : TE) : TI := fun σ H R => tl σ H fun x H1 => ∃ z : Str, x = .str z ∧ z.cps.all (· < 128) = true ∧ R (Its z) H1
theorem pi_str {tg l : Expr} {tl : TE} (hl : PE X l tl) : PI X tg l (iStr tl) := by
  intro pins s σ H R I h
  refine thn (hl pins s σ H _ I h) fun v s1 ⟨x, H1, I1, r1, q1⟩ => ?_
  obtain ⟨z, e, ha, q⟩ := q1
  subst e
  obtain ⟨t, rfl⟩ := r1
  refine wpAny_pyIter_ascii ha ?_
  refine ⟨s1.heap.objs.size, [s1.heap.objs.size], _, _, H1, rfl, I1.kept (t' := s1.toks) fun b o e => Heap.get?_push_of_some _ e, turn_str z t _, ⟨_, Heap.get?_push_size _ rfl, rfl, rfl⟩, fun b hb => ?_, q⟩
  have e : b = s1.heap.objs.size := by simpa using hb
  subst e
  exact I1.fpOk (Nat.le_refl _) (I1.hok.fresh (Nat.le_refl _))
def signsV (z : Str) : List V := z.cps.toList.map fun c => V.str ⟨#[c]⟩
theorem wk_str {z : Str} {H : Hp} : Wk (Its z) (signsV z) H where
  go := fun i H3 s hi => by
    show i < z.cps.size
    simpa [signsV] using hi
  yl := fun i H3 x H' s hi y => by
    obtain ⟨e, c, hc, rfl⟩ := y
    refine ⟨e, ?_⟩
    rw [signsV, List.getElem?_map]
    have : z.cps.toList[i]? = some c := by simpa using hc
    rw [this]
    rfl
  st := fun H3 s => by
    show z.cps.size ≤ _
    simp [signsV]
theorem call_int_str : CallR X (.type "int") (fun xs H Q => ∃ z n, xs = [.str z] ∧ PySem.intText? z = some n ∧ z.length ≤ 640 ∧ Q (.int n) H) := by
  intro pins s σ H xs us Q I r h
  obtain ⟨z, n, rfl, hn, hl, q⟩ := h
  obtain ⟨u, rfl, ru⟩ := vals1 r
  obtain ⟨t, rfl⟩ := ru
  exact PySem.W.KIN.call_text hn hl ⟨.int n, H, I.tok _, ⟨_, rfl⟩, q⟩
theorem vals_strs : ∀ (l : List (Str × Tok)), Vals ((l.map (·.1)).map V.str) (strValues l)
  | [] => .nil
  | (x, t) :: l => .cons ⟨t, rfl⟩ (vals_strs l)
def rSplit : V → List V → Hp → VK → Prop := fun x xs H Q => ∃ (z : Str) (c : Nat), x = .str z ∧ xs = [.str ⟨#[c]⟩] ∧ z.length + 2 ≤ sizeLine ∧ ∀ l, H l = none → Q (.ref l) (upd H l (.lst ((Txt.split z ⟨#[c]⟩).map V.str)))
theorem mt_split : MtR X "str.split" rSplit := by
  intro pins s σ H x xs v us Q I rx rs h
  obtain ⟨z, c, rfl, rfl, hz, q⟩ := h
  obtain ⟨t, rfl⟩ := rx
  obtain ⟨u, rfl, ru⟩ := vals1 rs
  obtain ⟨t', rfl⟩ := ru
  have hle : (Txt.split z ⟨#[c]⟩).length ≤ sizeLine := Nat.le_trans (split_le z ⟨#[c]⟩) hz
  have fin : ∀ (l : List (Str × Tok)) (k : Nat), l.map (·.1) = Txt.split z ⟨#[c]⟩ → EP X pins σ Q (.ref s.heap.objs.size) { s with toks := k, heap := s.heap.push { cls := .type "list", data := .seq (strValues l).toArray } } := fun l k e => by
    refine ⟨.ref s.heap.objs.size, _, I.laid (t' := k) (fun b o g => Heap.get?_push_of_some _ g) (Nat.le_refl _) (show ObjOk X.prog X.w _ _ _ (.lst ((Txt.split z ⟨#[c]⟩).map V.str)) from ⟨by rw [List.length_map]; exact hle, strValues l, _, by rw [← e]; exact vals_strs l, Heap.get?_push_size _ rfl⟩), rfl, q _ (I.hok.fresh (Nat.le_refl _))⟩
  have hy : ((⟨#[c]⟩ : Str).length == 0) = false := rfl
  cases h1 : (decide (z.length < (⟨#[c]⟩ : Str).length) || decide (Builtin.Str.strKind z < Builtin.Str.strKind ⟨#[c]⟩))
  · cases hf : (Builtin.Str.occurrences z ⟨#[c]⟩ 0 z.length (z.length + 1)).isEmpty
    · have es : Txt.split z ⟨#[c]⟩ = Builtin.Str.partsBetween z (Builtin.Str.occurrences z ⟨#[c]⟩ 0 z.length (z.length + 1)) (⟨#[c]⟩ : Str).length := by
        unfold Txt.split
        rw [h1, hf]
        rfl
      refine call_meets F.slot_str_split (typeIs_str _ _ _) F.entry_str_split (F.args_str_split_2 _ _) (meets_str_split_sep z ⟨#[c]⟩ t t' h1 hy hf (by (first | lia | omega)) (by rw [← es]; exact hle)) ?_
      have f := fun k => fin (numbered s.toks (Builtin.Str.partsBetween z (Builtin.Str.occurrences z ⟨#[c]⟩ 0 z.length (z.length + 1)) (⟨#[c]⟩ : Str).length)) k ((numbered_texts _ _).trans es.symm)
      rw [← strsFrom_eq] at f
      exact f _
    · refine call_meets F.slot_str_split (typeIs_str _ _ _) F.entry_str_split (F.args_str_split_2 _ _) (meets_str_split_not_found z ⟨#[c]⟩ t t' h1 hy hf) ?_
      exact fin [(z, t)] _ (by unfold Txt.split; rw [h1, hf]; rfl)
  · refine call_meets F.slot_str_split (typeIs_str _ _ _) F.entry_str_split (F.args_str_split_2 _ _) (meets_str_split_cannot_occur z ⟨#[c]⟩ t t' h1) ?_
    exact fin [(z, t)] _ (by unfold Txt.split; rw [h1]; rfl)
end
end L2
namespace Com
open PySem L2
theorem cps_join (c : Nat) (x y : Str) (r : List Str) : (Str.join ⟨#[c]⟩ (x :: y :: r)).cps.toList = x.cps.toList ++ c :: (Str.join ⟨#[c]⟩ (y :: r)).cps.toList := by
  show (x ++ (⟨#[c]⟩ : Str) ++ Str.join ⟨#[c]⟩ (y :: r)).cps.toList = _
  simp only [Str.cps_append, Array.toList_append]
  simp
theorem cut_inj {c : Nat} : ∀ {p q r r' : List Nat}, c ∉ p → c ∉ q → p ++ c :: r = q ++ c :: r' → p = q ∧ r = r'
  | [], [], r, r', _, _, h => ⟨rfl, by simpa using h⟩
  | [], y :: q, r, r', _, hq, h => absurd (by simp at h; rw [h.1]; exact List.mem_cons_self) hq
  | x :: p, [], r, r', hp, _, h => absurd (by simp at h; rw [h.1]; exact List.mem_cons_self) hp
  | x :: p, y :: q, r, r', hp, hq, h => by
    simp only [List.cons_append, List.cons.injEq] at h
    obtain ⟨e1, e2⟩ := cut_inj (fun z => hp (List.mem_cons_of_mem _ z)) (fun z => hq (List.mem_cons_of_mem _ z)) h.2
    exact ⟨by rw [h.1, e1], e2⟩
theorem str_toList {x y : Str} (h : x.cps.toList = y.cps.toList) : x = y := Str.ext' (Array.toList_inj.mp h)
theorem join_inj (c : Nat) : ∀ {l m : List Str}, l ≠ [] → m ≠ [] → (∀ p ∈ l, c ∉ p.cps.toList) → (∀ p ∈ m, c ∉ p.cps.toList) → (Str.join ⟨#[c]⟩ l).cps.toList = (Str.join ⟨#[c]⟩ m).cps.toList → l = m
  | [], _, h, _, _, _, _ => absurd rfl h
  | _, [], _, h, _, _, _ => absurd rfl h
  | [x], [y], _, _, _, _, h => by rw [str_toList (x := x) (y := y) h]
  | [x], y :: z :: r, _, _, hl, _, h => by
    rw [cps_join] at h
    refine absurd ?_ (hl x List.mem_cons_self)
    rw [show x.cps.toList = _ from h]
    simp
  | x :: z :: r, [y], _, _, _, hm, h => by
    rw [cps_join] at h
    refine absurd ?_ (hm y List.mem_cons_self)
    rw [show y.cps.toList = _ from h.symm]
    simp
  | x :: x2 :: r, y :: y2 :: r', _, _, hl, hm, h => by
    rw [cps_join, cps_join] at h
    obtain ⟨e1, e2⟩ := cut_inj (hl x List.mem_cons_self) (hm y List.mem_cons_self) h
    rw [str_toList e1, join_inj c (l := x2 :: r) (m := y2 :: r') (by simp) (by simp) (fun p hp => hl p (List.mem_cons_of_mem _ hp)) (fun p hp => hm p (List.mem_cons_of_mem _ hp)) e2]
theorem split_join (c : Nat) {ws : List Str} (h0 : ws ≠ []) (h : ∀ p ∈ ws, c ∉ p.cps.toList) : Txt.split (Str.join ⟨#[c]⟩ ws) ⟨#[c]⟩ = ws := by
  refine join_inj c ?_ h0 (StrLaws.split_free _ c) h (by rw [StrLaws.join_split])
  intro e
  have := PyProof.Rows.split_pos (Str.join ⟨#[c]⟩ ws) ⟨#[c]⟩
  rw [e] at this
  exact absurd this (by decide)
end Com
namespace L2
open PySem PySem.Spec PyProof.Rows
/-- a list of new lists, each made with more beside it -/
theorem comp_newsS {J : It} {xs : List V} {ls : List (List V)} {σ' : St} {j : Nat} {te : TE} {Q : VK} {H : Hp} (W : Wk J xs H) (hz : xs.length ≤ sizeLine) (hl : ls.length = xs.length)
    (hs : ∀ (i : Nat) x l H3, xs[i]? = some x → ls[i]? = some l → Same H H3 → ∀ Q' : VK, (∀ D H4, Same H3 H4 → H3 D = none → H4 D = some (.lst l) → Q' (.ref D) H4) → te (σ'.set j (some x)) H3 Q')
    (hd : ∀ (as : List Addr) H', Same H H' → as.length = ls.length → as.Nodup → (∀ b ∈ as, H b = none) → (∀ (i : Nat) a l, as[i]? = some a → ls[i]? = some l → H' a = some (.lst l)) → ∀ D, H' D = none → Q (.ref D) (upd H' D (.lst (as.map V.ref)))) : CompW σ' j tYes te Q J H := by
  refine comp_inv W (fun i ys H3 => Same H H3 ∧ ∃ as : List Addr, ys = as.map V.ref ∧ as.length = i ∧ as.Nodup ∧ (∀ b ∈ as, H b = none) ∧ (∀ b ∈ as, ∃ o, H3 b = some o) ∧ ∀ (k : Nat) a l, as[k]? = some a → ls[k]? = some l → H3 a = some (.lst l))
    ⟨Same.refl _, [], rfl, rfl, List.nodup_nil, (fun _ h => by cases h), (fun _ h => by cases h), fun k a l e => by simp at e⟩ (fun i ys H3 p => p.1) ?_ ?_ ?_
  · rintro i x ys H3 ex ⟨s3, as, rfl, hlen, nd, fr, there, hrow⟩
    have hi : i < xs.length := (List.getElem?_eq_some_iff.mp ex).1
    have el : ls[i]? = some ls[i] := List.getElem?_eq_getElem (by (first | lia | omega))
    show te _ _ _
    refine hs i x _ H3 ex el s3 _ fun D H4 s4 hD e4 => ⟨s3.trans s4, as ++ [D], by simp, by simp [hlen], ?_, ?_, ?_, ?_⟩
    · refine List.nodup_append.mpr ⟨nd, by simp, fun a ha c hc z => ?_⟩
      have : c = D := by simpa using hc
      subst this
      subst z
      obtain ⟨o, e⟩ := there a ha
      rw [hD] at e; cases e
    · intro c hc
      rcases List.mem_append.mp hc with hc | hc
      · exact fr c hc
      · have : c = D := by simpa using hc
        rw [this]; exact s3.free hD
    · intro c hc
      rcases List.mem_append.mp hc with hc | hc
      · obtain ⟨o, e⟩ := there c hc
        exact ⟨o, s4 _ _ e⟩
      · have : c = D := by simpa using hc
        rw [this]; exact ⟨_, e4⟩
    · intro k a l ea el'
      by_cases hk : k < as.length
      · rw [List.getElem?_append_left hk] at ea
        exact s4 _ _ (hrow k a l ea el')
      · rw [List.getElem?_append_right (by (first | lia | omega))] at ea
        have hk' : k - as.length = 0 := by
          have := (List.getElem?_eq_some_iff.mp ea).1
          simp at this
          (first | lia | omega)
        rw [hk'] at ea
        have e1 : D = a := by simpa using ea
        have e2 : k = i := by (first | lia | omega)
        subst e2
        rw [el] at el'
        rw [← e1, ← Option.some.inj el']
        exact e4
  · rintro i ys H3 hi ⟨s3, as, rfl, hlen, r⟩
    rw [List.length_map]
    (first | lia | omega)
  · rintro ys H3 ⟨s3, as, rfl, hlen, nd, fr, there, hrow⟩ D hD
    exact hd as H3 s3 (by (first | lia | omega)) nd fr hrow D hD
/-- a list of values, whatever is laid beside them -/
theorem comp_valsS {J : It} {xs ys : List V} {σ' : St} {j : Nat} {te : TE} {Q : VK} {H : Hp} (W : Wk J xs H) (hz : xs.length ≤ sizeLine) (hl : ys.length = xs.length)
    (hs : ∀ (i : Nat) x y H3, xs[i]? = some x → ys[i]? = some y → Same H H3 → ∀ Q' : VK, (∀ H4, Same H3 H4 → Q' y H4) → te (σ'.set j (some x)) H3 Q') (hd : ∀ H' D, Same H H' → H' D = none → Q (.ref D) (upd H' D (.lst ys))) : CompW σ' j tYes te Q J H := by
  refine comp_inv W (fun i zs H3 => Same H H3 ∧ i ≤ xs.length ∧ zs = ys.take i) ⟨Same.refl _, Nat.zero_le _, rfl⟩ (fun i zs H3 p => p.1) ?_ ?_ ?_
  · rintro i x zs H3 ex ⟨s3, hi, rfl⟩
    have hi' : i < xs.length := (List.getElem?_eq_some_iff.mp ex).1
    have ey : ys[i]? = some ys[i] := List.getElem?_eq_getElem (by (first | lia | omega))
    show te _ _ _
    refine hs i x _ H3 ex ey s3 _ fun H4 s4 => ⟨s3.trans s4, hi', ?_⟩
    rw [List.take_add_one, ey]
    rfl
  · rintro i zs H3 hi ⟨s3, _, rfl⟩
    rw [List.length_take]
    (first | lia | omega)
  · rintro zs H3 ⟨s3, _, rfl⟩ D hD
    rw [List.take_of_length_le (by (first | lia | omega))]
    exact hd H3 D s3 hD
end L2

set_option Elab.async false
set_option linter.all false
set_option maxRecDepth 100000
set_option maxHeartbeats 4000000
namespace Com
open PySem L2
def Nu (i : Int) : Prop := 0 ≤ i ∧ i < 100000000000000000000
theorem Nu.sm {i : Int} (h : Nu i) : Sm i := by
  obtain ⟨a, b⟩ := h
  show i.natAbs < 1000000000000000000000000000000
  (first | lia | omega)
theorem num_signs (m : Nat) : (numS (m : Int)).cps.toList = (Nat.toDigits 10 m).map Char.toNat := PySem.W.KIN.signs_num m
theorem num_digit {i : Int} (h : 0 ≤ i) : ∀ c ∈ (numS i).cps.toList, 48 ≤ c ∧ c ≤ 57 := by
  obtain ⟨m, rfl⟩ := Int.eq_ofNat_of_zero_le h
  intro c hc
  rw [num_signs] at hc
  obtain ⟨ch, hch, rfl⟩ := List.mem_map.mp hc
  exact PyProof.Rows.digit_range (Nat.isDigit_of_mem_toDigits (by decide) (by decide) hch)
theorem num_pos {i : Int} (h : 0 ≤ i) : 1 ≤ (numS i).length := by
  obtain ⟨m, rfl⟩ := Int.eq_ofNat_of_zero_le h
  have e : (numS (m : Int)).length = (numS (m : Int)).cps.toList.length := Array.length_toList.symm
  rw [e, num_signs, List.length_map]
  exact Nat.length_toDigits_pos
theorem num_le {i : Int} (h : Nu i) : (numS i).length ≤ 20 := by
  obtain ⟨h0, h1⟩ := h
  obtain ⟨m, rfl⟩ := Int.eq_ofNat_of_zero_le h0
  have e : (numS (m : Int)).length = (numS (m : Int)).cps.toList.length := Array.length_toList.symm
  rw [e, num_signs, List.length_map]
  exact (Nat.length_toDigits_le_iff (by decide) (by decide)).mpr (by show m < 100000000000000000000; (first | lia | omega))
theorem num_int {i : Int} (h : Nu i) : PySem.intText? (numS i) = some i := by
  have hl := num_le h
  have hp := num_pos h.1
  have hd := num_digit h.1
  obtain ⟨m, rfl⟩ := Int.eq_ofNat_of_zero_le h.1
  have e := PySem.intText_digits (x := numS (m : Int)) hd (fun z => by
    have e : (numS (m : Int)).length = (numS (m : Int)).cps.toList.length := Array.length_toList.symm
    rw [z] at e
    rw [e] at hp
    exact absurd hp (by decide)) (by (first | lia | omega))
  rw [num_signs, PySem.W.KIN.val_back] at e
  exact e
theorem head_dig : ∀ (m : Nat), 0 < m → ∃ c r, Nat.toDigits 10 m = c :: r ∧ c ≠ '0' := by
  intro m
  induction m using Nat.strongRecOn with
  | _ m ih =>
    intro h0
    by_cases h : m < 10
    · rw [Nat.toDigits_of_lt_base h]
      refine ⟨_, _, rfl, ?_⟩
      match m, h, h0 with
      | 1, _, _ | 2, _, _ | 3, _, _ | 4, _, _ | 5, _, _ | 6, _, _ | 7, _, _ | 8, _, _ | 9, _, _ => decide
    · have hm : m % 10 < 10 := Nat.mod_lt m (by decide)
      have t : Nat.toDigits 10 (m / 10) ++ Nat.toDigits 10 (m % 10) = Nat.toDigits 10 (10 * (m / 10) + m % 10) := Nat.toDigits_append_toDigits (by decide) (by (first | lia | omega)) hm
      rw [Nat.div_add_mod] at t
      obtain ⟨c, r, e, hc⟩ := ih (m / 10) (by (first | lia | omega)) (by (first | lia | omega))
      rw [← t, e]
      exact ⟨c, _, rfl, hc⟩
theorem num_lead {i : Int} (h : 0 ≤ i) {c : Nat} (hc : (numS i).cps[0]? = some c) : c = 48 → numS i = Str.ofString "0" := by
  obtain ⟨m, rfl⟩ := Int.eq_ofNat_of_zero_le h
  intro e
  subst e
  have h1 : (numS (m : Int)).cps.toList[0]? = some 48 := by simpa using hc
  rw [num_signs] at h1
  cases m with
  | zero => rfl
  | succ m =>
    obtain ⟨d, r, e, hd⟩ := head_dig (m + 1) (Nat.succ_pos m)
    rw [e] at h1
    simp only [List.map_cons, List.getElem?_cons_zero, Option.some.injEq] at h1
    refine absurd ?_ hd
    exact Char.toNat_inj.mp h1
theorem ascii_of {x : Str} (h : ∀ c ∈ x.cps.toList, 48 ≤ c ∧ c ≤ 57) : x.cps.all (· < 128) = true := by
  rw [← Array.all_toList, List.all_eq_true]
  intro c hc
  have := h c hc
  simp
  (first | lia | omega)
theorem fig_in : ∀ c, 48 ≤ c → c ≤ 57 → (!(Builtin.Str.occurrences (Str.ofString "0123456789") ⟨#[c]⟩ 0 (Str.ofString "0123456789").length 1).isEmpty) = true := by
  have key : ∀ k : _root_.Fin 10, (!(Builtin.Str.occurrences (Str.ofString "0123456789") ⟨#[48 + k.val]⟩ 0 (Str.ofString "0123456789").length 1).isEmpty) = true := by decide +kernel
  intro c h1 h2
  have := key ⟨c - 48, by (first | lia | omega)⟩
  rw [show 48 + (c - 48) = c by (first | lia | omega)] at this
  exact this
theorem sp_is : Str.ofString " " = ⟨#[32]⟩ := by decide +kernel
theorem nl_is : Str.ofString "\n" = ⟨#[10]⟩ := by decide +kernel
/-- a board whose numbers can be read -/
structure BNu (b : Brd) : Prop where
  O : BrdOk b
  k : Nu b.taken
  l : ∀ i, Nu (b.loads.getD i 0)
  s : ∀ i, Nu (b.steps.getD i 0)
  m : b.loads.sum ≤ 400
theorem BNu.sm {b : Brd} (N : BNu b) : BSm b := ⟨N.O, N.k.sm, fun i => (N.l i).sm, fun i => (N.s i).sm⟩
theorem nu_of {i : Int} (h : 0 ≤ i) (h2 : i ≤ 1000000) : Nu i := ⟨h, by (first | lia | omega)⟩
theorem BNu.t {b : Brd} (N : BNu b) {i : Nat} (hi : i < b.rows.length) : Nu (b.turns.getD i 0) := by
  obtain ⟨a, c⟩ := N.O.T.2 i hi
  have := row_len N.O.W hi
  exact nu_of a (by (first | lia | omega))
theorem word_free {e : Int} (h : -1 ≤ e) : ∀ c ∈ (wordS e).cps.toList, 48 ≤ c := by
  intro c hc
  unfold wordS at hc
  split at hc
  · revert c
    decide +kernel
  · exact (num_digit (by (first | lia | omega)) c hc).1
theorem free_of {x : Str} {k : Nat} (hk : k < 48) (h : ∀ c ∈ x.cps.toList, 48 ≤ c) : k ∉ x.cps.toList := fun z => by
  have := h k z
  (first | lia | omega)
theorem lineW_free {t l s : Int} {r : List Int} (h1 : Nu t) (h2 : Nu l) (h3 : Nu s) (hr : ∀ e ∈ r, -1 ≤ e) {k : Nat} (hk : k < 48) : ∀ p ∈ lineW t l s r, k ∉ p.cps.toList := fun y hy => by
  unfold lineW at hy
  simp only [List.mem_append, List.mem_cons, List.not_mem_nil, or_false] at hy
  rcases hy with ((rfl | rfl | rfl) | rfl) | hy
  · exact free_of hk fun c hc => (num_digit h1.1 c hc).1
  · exact free_of hk fun c hc => (num_digit h2.1 c hc).1
  · exact free_of hk fun c hc => (num_digit h3.1 c hc).1
  · exact free_of hk (by decide +kernel)
  · obtain ⟨e, he, rfl⟩ := List.mem_map.mp hy
    exact free_of hk (word_free (hr e he))
theorem join_free {c k : Nat} (hck : c ≠ k) : ∀ {l : List Str}, (∀ p ∈ l, k ∉ p.cps.toList) → k ∉ (Str.join ⟨#[c]⟩ l).cps.toList
  | [], _ => by simp [Str.join, Str.empty]
  | [x], h => h x List.mem_cons_self
  | x :: y :: r, h => by
    rw [cps_join]
    intro z
    rcases List.mem_append.mp z with z | z
    · exact h x List.mem_cons_self z
    · rcases List.mem_cons.mp z with z | z
      · exact hck z.symm
      · exact join_free hck (l := y :: r) (fun p hp => h p (List.mem_cons_of_mem _ hp)) z
theorem BNu.way {b : Brd} (N : BNu b) {i : Nat} (hi : i < b.rows.length) : ∀ e ∈ b.rows.getD i [], -1 ≤ e := fun e he => ((N.O.W.2.2 _ (gD_mem hi)).2.2 e he).1
theorem site_split {b : Brd} (N : BNu b) {i : Nat} (hi : i < b.rows.length) : Txt.split (siteS b i) ⟨#[32]⟩ = lineW (b.turns.getD i 0) (b.loads.getD i 0) (b.steps.getD i 0) (b.rows.getD i []) := by
  unfold siteS lineS
  rw [sp_is]
  exact split_join 32 (by unfold lineW; simp) (lineW_free (N.t hi) (N.l i) (N.s i) (N.way hi) (by decide))
def headW (w : Int) : List Str := [Str.ofString "board", numS w]
theorem head_join (w : Int) : headS w = Str.join ⟨#[32]⟩ (headW w) := by
  unfold headS
  rw [sp_is]
  rfl
theorem headW_free {w : Int} (h : Nu w) {k : Nat} (hk : k < 48) : ∀ p ∈ headW w, k ∉ p.cps.toList := fun y hy => by
  unfold headW at hy
  simp only [List.mem_cons, List.not_mem_nil, or_false] at hy
  rcases hy with rfl | rfl
  · exact free_of hk (by decide +kernel)
  · exact free_of hk fun c hc => (num_digit h.1 c hc).1
theorem head_split {w : Int} (h : Nu w) : Txt.split (headS w) ⟨#[32]⟩ = headW w := by
  rw [head_join]
  exact split_join 32 (by unfold headW; simp) (headW_free h (by decide))
theorem text_split {b : Brd} (N : BNu b) : Txt.split (textS b) ⟨#[10]⟩ = linesS b := by
  unfold textS
  rw [nl_is]
  refine split_join 10 (by unfold linesS; simp) fun p hp => ?_
  unfold linesS at hp
  rcases List.mem_cons.mp hp with rfl | hp
  · rw [head_join]
    exact join_free (by decide) (headW_free N.k (by decide))
  · obtain ⟨i, hi, rfl⟩ := List.mem_map.mp hp
    unfold siteS lineS
    rw [sp_is]
    exact join_free (by decide) (lineW_free (N.t (List.mem_range.mp hi)) (N.l i) (N.s i) (N.way (List.mem_range.mp hi)) (by decide))
/-- the words of each line -/
def wordsB (b : Brd) : List (List Str) := headW b.taken :: (List.range b.rows.length).map fun i => lineW (b.turns.getD i 0) (b.loads.getD i 0) (b.steps.getD i 0) (b.rows.getD i [])
theorem words_split {b : Brd} (N : BNu b) : (linesS b).map (fun x => Txt.split x ⟨#[32]⟩) = wordsB b := by
  unfold linesS wordsB
  rw [List.map_cons, head_split N.k, List.map_map]
  congr 1
  exact List.map_congr_left fun i hi => site_split N (List.mem_range.mp hi)
theorem word_pit {e : Int} (N : e = -1 ∨ Nu e) (h : wordS e = Str.ofString "pit") : e = -1 := by
  rcases N with N | N
  · exact N
  · exfalso
    unfold wordS at h
    rw [if_neg (by have := N.1; (first | lia | omega))] at h
    have hd := num_digit N.1
    rw [h] at hd
    exact absurd (hd 112 (by decide +kernel)) (by decide)
theorem cut_from {xs : List V} {k : Nat} (hk : k ≤ xs.length) : cutV xs (some (k : Int)) none = xs.drop k := by
  unfold cutV
  rw [HT.sIx_none, HT.sIx_nat, Nat.min_eq_left hk]
  exact List.take_of_length_le (by simp)
theorem cut_to {xs : List V} {k : Nat} (hk : k ≤ xs.length) : cutV xs none (some (k : Int)) = xs.take k := by
  unfold cutV
  rw [HT.sIx_none, HT.sIx_nat, Nat.min_eq_left hk, List.drop_zero, Nat.sub_zero]
theorem cut_mid {xs : List V} {j k : Nat} (hj : j ≤ k) (hk : k ≤ xs.length) : cutV xs (some (j : Int)) (some (k : Int)) = (xs.drop j).take (k - j) := by
  unfold cutV
  rw [HT.sIx_nat, HT.sIx_nat, Nat.min_eq_left hk, Nat.min_eq_left (Nat.le_trans hj hk)]
theorem lineW_map (t l s : Int) (r : List Int) : (lineW t l s r).map V.str = V.str (numS t) :: V.str (numS l) :: V.str (numS s) :: V.str (Str.ofString ">") :: (r.map wordS).map V.str := by
  unfold lineW
  rw [List.map_append]
  rfl
end Com

set_option Elab.async false
set_option linter.all false
set_option maxRecDepth 100000
set_option maxHeartbeats 4000000
namespace Law
open PySem L2 Com
def top (i : Nat) : Stmt := PySem.Challenge.pw_marblerun_k24_whole_read_back.main.body.getD i (.Pass ⟨0, 0, 0, 0⟩)
abbrev s_check_rows : Stmt := top 14
abbrev s_check_row : Stmt := top 15
abbrev s_check_site : Stmt := top 16
abbrev s_Binit : Stmt := inClass (top 17) 0
abbrev s_Bturn_to : Stmt := inClass (top 17) 1
abbrev s_Bload : Stmt := inClass (top 17) 2
abbrev s_written : Stmt := top 24
abbrev s_site_line : Stmt := top 25
abbrev s_way_word : Stmt := top 26
abbrev s_read : Stmt := top 27
abbrev s_told : Stmt := top 28
abbrev s_read_head : Stmt := top 29
abbrev s_read_numbers : Stmt := top 30
abbrev s_read_row : Stmt := top 31
abbrev s_read_way : Stmt := top 32
abbrev s_read_number : Stmt := top 33
abbrev s_step : Stmt := top 35
abbrev s_drawn : Stmt := top 37
abbrev s_other : Stmt := top 38
abbrev s_rows_by : Stmt := top 39
abbrev s_turns_by : Stmt := top 40
abbrev s_whole : Stmt := top 41
abbrev s_row : Stmt := top 42
abbrev s_stands : Stmt := top 43
abbrev s_step_by : Stmt := top 44
abbrev s_number_by : Stmt := top 45
abbrev s_shown : Stmt := top 46
abbrev s_law : Stmt := top 47
set_option genInjectivity false in
set_option genSizeOfSpec false in
structure Adr where
  C : Addr
  f_check_rows : Addr
  fd_check_rows : FuncData
  f_check_row : Addr
  fd_check_row : FuncData
  f_check_site : Addr
  fd_check_site : FuncData
  f_Binit : Addr
  fd_Binit : FuncData
  f_Bturn_to : Addr
  fd_Bturn_to : FuncData
  f_Bload : Addr
  fd_Bload : FuncData
  f_written : Addr
  fd_written : FuncData
  f_site_line : Addr
  fd_site_line : FuncData
  f_way_word : Addr
  fd_way_word : FuncData
  f_read : Addr
  fd_read : FuncData
  f_told : Addr
  fd_told : FuncData
  f_read_head : Addr
  fd_read_head : FuncData
  f_read_numbers : Addr
  fd_read_numbers : FuncData
  f_read_row : Addr
  fd_read_row : FuncData
  f_read_way : Addr
  fd_read_way : FuncData
  f_read_number : Addr
  fd_read_number : FuncData
  f_step : Addr
  fd_step : FuncData
  f_drawn : Addr
  fd_drawn : FuncData
  f_other : Addr
  fd_other : FuncData
  f_rows_by : Addr
  fd_rows_by : FuncData
  f_turns_by : Addr
  fd_turns_by : FuncData
  f_whole : Addr
  fd_whole : FuncData
  f_row : Addr
  fd_row : FuncData
  f_stands : Addr
  fd_stands : FuncData
  f_step_by : Addr
  fd_step_by : FuncData
  f_number_by : Addr
  fd_number_by : FuncData
  f_shown : Addr
  fd_shown : FuncData
  f_law : Addr
  fd_law : FuncData
  t_PIT : Tok
  t_MOST_SITES : Tok
  t_MOST_EXITS : Tok
  t_MOST_MARBLES : Tok
  t_HEAD : Tok
  t_MARK : Tok
  t_PIT_WORD : Tok
  t_FIGURES : Tok
  t_MOST_FIGURES : Tok
  c_NoSite : Addr
  c_NoPlace : Addr
  c_TooMany : Addr
  c_NoMarble : Addr
  c_BoardError : Addr
structure Txt (K : PySem.W.Frag) (mg : Str → Option Value) (A : Adr) : Prop where
  F_check_rows : Fun K "check_rows" "check_rows" s_check_rows A.f_check_rows A.fd_check_rows
  m_check_rows : mg "check_rows" = some (.ref A.f_check_rows)
  k_check_rows : PySem.W.keepIn K (.ref A.f_check_rows) = true
  b_check_rows : Binds K A.fd_check_rows ["rows"] []
  F_check_row : Fun K "check_row" "check_row" s_check_row A.f_check_row A.fd_check_row
  m_check_row : mg "check_row" = some (.ref A.f_check_row)
  k_check_row : PySem.W.keepIn K (.ref A.f_check_row) = true
  b_check_row : Binds K A.fd_check_row ["row", "sites"] []
  F_check_site : Fun K "check_site" "check_site" s_check_site A.f_check_site A.fd_check_site
  m_check_site : mg "check_site" = some (.ref A.f_check_site)
  k_check_site : PySem.W.keepIn K (.ref A.f_check_site) = true
  b_check_site : Binds K A.fd_check_site ["board", "at"] []
  F_Binit : Fun K "__init__" "Board.__init__" s_Binit A.f_Binit A.fd_Binit
  mk_Board : Mk K A.C A.f_Binit
  bi_Board : Binds K A.fd_Binit ["self", "rows"] []
  F_Bturn_to : Fun K "turn_to" "Board.turn_to" s_Bturn_to A.f_Bturn_to A.fd_Bturn_to
  mt_turn_to : Meth K A.C "turn_to" A.f_Bturn_to
  bm_turn_to : Binds K A.fd_Bturn_to ["self", "at", "place"] []
  F_Bload : Fun K "load" "Board.load" s_Bload A.f_Bload A.fd_Bload
  mt_load : Meth K A.C "load" A.f_Bload
  bm_load : Binds K A.fd_Bload ["self", "at", "many"] []
  F_written : Fun K "written" "written" s_written A.f_written A.fd_written
  m_written : mg "written" = some (.ref A.f_written)
  k_written : PySem.W.keepIn K (.ref A.f_written) = true
  b_written : Binds K A.fd_written ["board"] []
  F_site_line : Fun K "site_line" "site_line" s_site_line A.f_site_line A.fd_site_line
  m_site_line : mg "site_line" = some (.ref A.f_site_line)
  k_site_line : PySem.W.keepIn K (.ref A.f_site_line) = true
  b_site_line : Binds K A.fd_site_line ["board", "at"] []
  F_way_word : Fun K "way_word" "way_word" s_way_word A.f_way_word A.fd_way_word
  m_way_word : mg "way_word" = some (.ref A.f_way_word)
  k_way_word : PySem.W.keepIn K (.ref A.f_way_word) = true
  b_way_word : Binds K A.fd_way_word ["way"] []
  F_read : Fun K "read" "read" s_read A.f_read A.fd_read
  m_read : mg "read" = some (.ref A.f_read)
  k_read : PySem.W.keepIn K (.ref A.f_read) = true
  b_read : Binds K A.fd_read ["text"] []
  F_told : Fun K "told" "told" s_told A.f_told A.fd_told
  m_told : mg "told" = some (.ref A.f_told)
  k_told : PySem.W.keepIn K (.ref A.f_told) = true
  b_told : Binds K A.fd_told ["rows", "numbers"] []
  F_read_head : Fun K "read_head" "read_head" s_read_head A.f_read_head A.fd_read_head
  m_read_head : mg "read_head" = some (.ref A.f_read_head)
  k_read_head : PySem.W.keepIn K (.ref A.f_read_head) = true
  b_read_head : Binds K A.fd_read_head ["words"] []
  F_read_numbers : Fun K "read_numbers" "read_numbers" s_read_numbers A.f_read_numbers A.fd_read_numbers
  m_read_numbers : mg "read_numbers" = some (.ref A.f_read_numbers)
  k_read_numbers : PySem.W.keepIn K (.ref A.f_read_numbers) = true
  b_read_numbers : Binds K A.fd_read_numbers ["words"] []
  F_read_row : Fun K "read_row" "read_row" s_read_row A.f_read_row A.fd_read_row
  m_read_row : mg "read_row" = some (.ref A.f_read_row)
  k_read_row : PySem.W.keepIn K (.ref A.f_read_row) = true
  b_read_row : Binds K A.fd_read_row ["words"] []
  F_read_way : Fun K "read_way" "read_way" s_read_way A.f_read_way A.fd_read_way
  m_read_way : mg "read_way" = some (.ref A.f_read_way)
  k_read_way : PySem.W.keepIn K (.ref A.f_read_way) = true
  b_read_way : Binds K A.fd_read_way ["word"] []
  F_read_number : Fun K "read_number" "read_number" s_read_number A.f_read_number A.fd_read_number
  m_read_number : mg "read_number" = some (.ref A.f_read_number)
  k_read_number : PySem.W.keepIn K (.ref A.f_read_number) = true
  b_read_number : Binds K A.fd_read_number ["word"] []
  F_step : Fun K "step" "step" s_step A.f_step A.fd_step
  m_step : mg "step" = some (.ref A.f_step)
  k_step : PySem.W.keepIn K (.ref A.f_step) = true
  b_step : Binds K A.fd_step ["board", "at"] []
  F_drawn : Fun K "_law_drawn" "_law_drawn" s_drawn A.f_drawn A.fd_drawn
  m__law_drawn : mg "_law_drawn" = some (.ref A.f_drawn)
  k__law_drawn : PySem.W.keepIn K (.ref A.f_drawn) = true
  b__law_drawn : Binds K A.fd_drawn ["script", "k", "many"] []
  F_other : Fun K "_law_other" "_law_other" s_other A.f_other A.fd_other
  m__law_other : mg "_law_other" = some (.ref A.f_other)
  k__law_other : PySem.W.keepIn K (.ref A.f_other) = true
  b__law_other : Binds K A.fd_other ["gone", "many"] []
  F_rows_by : Fun K "_law_rows_by" "_law_rows_by" s_rows_by A.f_rows_by A.fd_rows_by
  m__law_rows_by : mg "_law_rows_by" = some (.ref A.f_rows_by)
  k__law_rows_by : PySem.W.keepIn K (.ref A.f_rows_by) = true
  b__law_rows_by : Binds K A.fd_rows_by ["script"] []
  F_turns_by : Fun K "_law_turns_by" "_law_turns_by" s_turns_by A.f_turns_by A.fd_turns_by
  m__law_turns_by : mg "_law_turns_by" = some (.ref A.f_turns_by)
  k__law_turns_by : PySem.W.keepIn K (.ref A.f_turns_by) = true
  b__law_turns_by : Binds K A.fd_turns_by ["script", "rows"] []
  F_whole : Fun K "_law_whole" "_law_whole" s_whole A.f_whole A.fd_whole
  m__law_whole : mg "_law_whole" = some (.ref A.f_whole)
  k__law_whole : PySem.W.keepIn K (.ref A.f_whole) = true
  b__law_whole : Binds K A.fd_whole ["found"] []
  F_row : Fun K "_law_row" "_law_row" s_row A.f_row A.fd_row
  m__law_row : mg "_law_row" = some (.ref A.f_row)
  k__law_row : PySem.W.keepIn K (.ref A.f_row) = true
  b__law_row : Binds K A.fd_row ["found", "due"] []
  F_stands : Fun K "_law_stands" "_law_stands" s_stands A.f_stands A.fd_stands
  m__law_stands : mg "_law_stands" = some (.ref A.f_stands)
  k__law_stands : PySem.W.keepIn K (.ref A.f_stands) = true
  b__law_stands : Binds K A.fd_stands ["board", "rows", "turns", "lying", "counts"] []
  F_step_by : Fun K "_law_step_by" "_law_step_by" s_step_by A.f_step_by A.fd_step_by
  m__law_step_by : mg "_law_step_by" = some (.ref A.f_step_by)
  k__law_step_by : PySem.W.keepIn K (.ref A.f_step_by) = true
  b__law_step_by : Binds K A.fd_step_by ["rows", "turns", "lying", "counts", "at"] []
  F_number_by : Fun K "_law_number_by" "_law_number_by" s_number_by A.f_number_by A.fd_number_by
  m__law_number_by : mg "_law_number_by" = some (.ref A.f_number_by)
  k__law_number_by : PySem.W.keepIn K (.ref A.f_number_by) = true
  b__law_number_by : Binds K A.fd_number_by ["script", "k"] []
  F_shown : Fun K "_law_shown" "_law_shown" s_shown A.f_shown A.fd_shown
  m__law_shown : mg "_law_shown" = some (.ref A.f_shown)
  k__law_shown : PySem.W.keepIn K (.ref A.f_shown) = true
  b__law_shown : Binds K A.fd_shown ["rows", "turns", "lying", "counts"] []
  F_law : Fun K "law" "law" s_law A.f_law A.fd_law
  m_law : mg "law" = some (.ref A.f_law)
  k_law : PySem.W.keepIn K (.ref A.f_law) = true
  b_law : Binds K A.fd_law ["script"] []
  m_Board : mg "Board" = some (.ref A.C)
  cl_Board : Cls K A.C
  na_rows : NoAttr K A.C "rows"
  na_turns : NoAttr K A.C "turns"
  na_loads : NoAttr K A.C "loads"
  na_steps : NoAttr K A.C "steps"
  na_taken : NoAttr K A.C "taken"
  ib1 : PySem.W.findIn K (.ref A.C) "__class__" = some (some (.builtin "object.__class__"))
  ib2 : PySem.W.specialIn K (.builtin "object.__class__") "__get__" = some (some (.builtin "getset_descriptor.__get__"))
  ib3 : PySem.W.takesIn K (.builtin "object.__class__") = some true
  ib4 : PySem.W.mroIn K A.C (.type "object") = some true
  n_len : mg "len" = none
  n_range : mg "range" = none
  n_isinstance : mg "isinstance" = none
  n_int : mg "int" = none
  n_bool : mg "bool" = none
  n_list : mg "list" = none
  n_reversed : mg "reversed" = none
  n_sum : mg "sum" = none
  n_all : mg "all" = none
  n_enumerate : mg "enumerate" = none
  n_max : mg "max" = none
  n_str : mg "str" = none
  g_PIT : mg "PIT" = some (.int (-1) A.t_PIT)
  g_MOST_SITES : mg "MOST_SITES" = some (.int (12) A.t_MOST_SITES)
  g_MOST_EXITS : mg "MOST_EXITS" = some (.int (8) A.t_MOST_EXITS)
  g_MOST_MARBLES : mg "MOST_MARBLES" = some (.int (400) A.t_MOST_MARBLES)
  g_HEAD : mg "HEAD" = some (.str "board" A.t_HEAD)
  g_MARK : mg "MARK" = some (.str ">" A.t_MARK)
  g_PIT_WORD : mg "PIT_WORD" = some (.str "pit" A.t_PIT_WORD)
  g_FIGURES : mg "FIGURES" = some (.str "0123456789" A.t_FIGURES)
  g_MOST_FIGURES : mg "MOST_FIGURES" = some (.int (20) A.t_MOST_FIGURES)
  m_NoSite : mg "NoSite" = some (.ref A.c_NoSite)
  x_NoSite : XCls K A.c_NoSite
  kb_NoSite : PySem.W.kitOne K (.ref A.c_NoSite) (.type "BaseException") = some true
  m_NoPlace : mg "NoPlace" = some (.ref A.c_NoPlace)
  x_NoPlace : XCls K A.c_NoPlace
  kb_NoPlace : PySem.W.kitOne K (.ref A.c_NoPlace) (.type "BaseException") = some true
  m_TooMany : mg "TooMany" = some (.ref A.c_TooMany)
  x_TooMany : XCls K A.c_TooMany
  kb_TooMany : PySem.W.kitOne K (.ref A.c_TooMany) (.type "BaseException") = some true
  m_NoMarble : mg "NoMarble" = some (.ref A.c_NoMarble)
  x_NoMarble : XCls K A.c_NoMarble
  kb_NoMarble : PySem.W.kitOne K (.ref A.c_NoMarble) (.type "BaseException") = some true
  m_BoardError : mg "BoardError" = some (.ref A.c_BoardError)
  x_BoardError : XCls K A.c_BoardError
  kb_BoardError : PySem.W.kitOne K (.ref A.c_BoardError) (.type "BaseException") = some true
  q_int_bool : PySem.W.kitOne K (.type "int") (.type "bool") = some false

def spDrawn (K : PySem.W.Frag) : Sp := fun vs H Q _ => ∃ (a : Addr) (ns : List Int) (k many : Int), vs = [.ref a, .int k, .int many] ∧ SqL K H a (ns.map V.int) ∧ 0 < many ∧ -(2 ^ 62) < k ∧ k < 2 ^ 62 ∧ Q (.int (drawn ns k many)) H
def oth (many g : Int) : Int := if g < 0 then g else many - 1 - g
def spOther : Sp := fun vs H Q _ => ∃ (g many : Int), vs = [.int g, .int many] ∧ Q (.int (oth many g)) H
theorem at_ints {ns : List Int} {i : Int} (h0 : 0 ≤ i) (h1 : i < (ns.length : Int)) : atI (ns.map V.int) i = some (V.int (ns.getD i.toNat 0)) := by
  obtain ⟨n, rfl⟩ : ∃ n : Nat, i = (n : Int) := ⟨i.toNat, by (first | lia | omega)⟩
  have hl : n < ns.length := by (first | lia | omega)
  refine atI_nat ?_
  rw [List.getElem?_map, List.getElem?_eq_getElem hl]
  simp [List.getElem?_eq_getElem hl]
theorem at_list {α : Type} {xs : List α} {i : Int} {n : Nat} {x : α} (h0 : i = (n : Int)) (h1 : xs[n]? = some x) : atI xs i = some x := by rw [h0]; exact atI_nat h1
theorem ixN_in {n : Nat} {i : Int} (h0 : 0 ≤ i) (h1 : i < (n : Int)) : ixN n i = some i.toNat := by
  unfold ixN
  rw [if_pos h0, if_pos h1]
theorem kb10 {i : Nat} (h : i < 100) : -(2 ^ 62 : Int) < 10 + 20 * (0 + (i : Int)) ∧ 10 + 20 * (0 + (i : Int)) < 2 ^ 62 := by (first | lia | omega)
theorem kb11 {i : Nat} (h : i < 100) : -(2 ^ 62 : Int) < 10 + 20 * (0 + (i : Int)) + 1 ∧ 10 + 20 * (0 + (i : Int)) + 1 < 2 ^ 62 := by (first | lia | omega)
theorem kb12 {i : Nat} (h : i < 100) : -(2 ^ 62 : Int) < 10 + 20 * (0 + (i : Int)) + 2 ∧ 10 + 20 * (0 + (i : Int)) + 2 < 2 ^ 62 := by (first | lia | omega)
theorem kb13 {i j : Nat} (h : i < 100) (h2 : j < 100) : -(2 ^ 62 : Int) < 10 + 20 * (0 + (i : Int)) + 3 + (0 + (j : Int)) ∧ 10 + 20 * (0 + (i : Int)) + 3 + (0 + (j : Int)) < 2 ^ 62 := by (first | lia | omega)
theorem kbc {c : Int} {i : Nat} (h : i < 100) (hc : 0 ≤ c ∧ c ≤ 10000) : -(2 ^ 62 : Int) < c + (0 + (i : Int)) ∧ c + (0 + (i : Int)) < 2 ^ 62 := by (first | lia | omega)
theorem ps1 {m : Int} (h : 1 ≤ m) : 0 < m := Int.lt_of_lt_of_le Int.zero_lt_one h
theorem psi {i : Nat} : (0 : Int) < 0 + (i : Int) + 1 := by (first | lia | omega)
theorem psl {n : Nat} : (0 : Int) < (n : Int) + 1 := by (first | lia | omega)
theorem small12 {n : Nat} (h : n ≤ 100) : n ≤ sizeLine := Nat.le_of_lt (small1000 (by (first | lia | omega)))

def spCheckRow (K : PySem.W.Frag) : Sp := fun vs H Q _ => ∃ (a : Addr) (r : List Int) (n : Nat), vs = [.ref a, .int (n : Int)] ∧ SqL K H a (r.map V.int) ∧ RowOk n r ∧ Q .non H
def spCheckRows : Sp := fun vs H Q _ => ∃ (a : Addr) (as : List Addr) (rows : List (List Int)), vs = [.ref a] ∧ Mat H a as rows ∧ Wf rows ∧ Q .non H
def newB (rows : List (List Int)) : Brd := ⟨rows, List.replicate rows.length 0, List.replicate rows.length 0, List.replicate rows.length 0, 0⟩
def spInit (C : Addr) : Sp := fun vs H Q _ => ∃ (p dx aH : Addr) (asH : List Addr) (rows : List (List Int)), vs = [.ref p, .ref aH] ∧ H p = some (.ins C dx []) ∧ Mat H aH asH rows ∧ Wf rows ∧
  ∀ (aR : Addr) (as : List Addr) (aT aL aS : Addr) (H' : Hp), BoardAt C H' p dx aR as aT aL aS (newB rows) → (∀ b o, H b = some o → b ≠ p → H' b = some o) → (∀ b ∈ aT :: aL :: aS :: aR :: as, H b = none) → Q .non H'

def spWhole : Sp := fun vs H Q _ => ∃ i : Int, vs = [.int i] ∧ Q (.bl true) H
def spRow (K : PySem.W.Frag) : Sp := fun vs H Q _ => ∃ (a b : Addr) (xs : List Int), vs = [.ref a, .ref b] ∧ H a = some (.lst (xs.map V.int)) ∧ SqL K H b (xs.map V.int) ∧ xs.length ≤ 1000 ∧ Q (.bl true) H
def spStands (K : PySem.W.Frag) (C : Addr) : Sp := fun vs H Q _ => ∃ (p dx aR : Addr) (as : List Addr) (aT aL aS : Addr) (b : Brd) (R : Addr) (asR : List Addr) (tA lA cA : Addr), vs = [.ref p, .ref R, .ref tA, .ref lA, .ref cA] ∧ BoardAt C H p dx aR as aT aL aS b ∧ Mat H R asR b.rows ∧
  SqL K H tA (b.turns.map V.int) ∧ SqL K H lA ((b.loads ++ [b.taken]).map V.int) ∧ SqL K H cA (b.steps.map V.int) ∧ b.rows.length ≤ 100 ∧ (∀ r ∈ b.rows, r.length ≤ 100) ∧ b.turns.length ≤ 100 ∧ b.loads.length ≤ 100 ∧ b.steps.length ≤ 100 ∧ ∀ H', Same H H' → Q (.bl true) H'
theorem cut_last (xs : List Int) (z : Int) : cutV ((xs ++ [z]).map V.int) none (some (-1)) = xs.map V.int := by
  have e : HT.sIx ((xs ++ [z]).map V.int).length ((xs ++ [z]).map V.int).length (some (-1)) = xs.length := by
    simp only [List.length_map, List.length_append, List.length_singleton]
    unfold HT.sIx
    simp
    try (first | lia | omega)
  unfold cutV
  rw [e, HT.sIx_none]
  simp
theorem at_last_int (xs : List Int) (z : Int) : atI ((xs ++ [z]).map V.int) (-1) = some (V.int z) := by
  rw [List.map_append]
  exact atI_last _ _

theorem rowok_new {n : Nat} {ns : List Int} {sz : Int} {top many : Int} (h1 : 1 ≤ sz) (h8 : sz ≤ 8) (ht : 1 ≤ top) (htm : top ≤ many + 1) (hn : (n : Int) = many) (c : Int → Int) {e : Int} {i : Nat} (he : -1 ≤ e ∧ e < many) :
    RowOk n (((List.range sz.toNat).map fun (j : Nat) => drawn ns (c j) top - 1).set i e) := by
  refine ⟨by simp; (first | lia | omega), by simp; (first | lia | omega), fun x hx => ?_⟩
  rcases List.mem_or_eq_of_mem_set hx with h | h
  · obtain ⟨j, _, rfl⟩ := List.mem_map.mp h
    have a1 := drawn_nn ns (c j) (many := top) (by (first | lia | omega))
    have a2 := drawn_lt ns (c j) (many := top) (by (first | lia | omega))
    (first | lia | omega)
  · rw [h, hn]
    exact he
theorem rowok_ins {n : Nat} {r : List Int} {k : Nat} {e : Int} (h : RowOk n r) (h8 : r.length < 8) (he : -1 ≤ e ∧ e < (n : Int)) : RowOk n (r.take k ++ e :: r.drop k) := by
  obtain ⟨h1, h2, h3⟩ := h
  have hl : (r.take k ++ e :: r.drop k).length = r.length + 1 := by
    simp only [List.length_append, List.length_take, List.length_cons, List.length_drop]
    (first | lia | omega)
  refine ⟨by (first | lia | omega), by (first | lia | omega), fun x hx => ?_⟩
  rcases List.mem_append.mp hx with z | z
  · exact h3 x (List.mem_of_mem_take z)
  · rcases List.mem_cons.mp z with z | z
    · rw [z]; exact he
    · exact h3 x (List.mem_of_mem_drop z)
theorem rowok_oth {n : Nat} {r : List Int} {many : Int} (h : RowOk n r) (hn : (n : Int) = many) : RowOk n (r.map (oth many)) := by
  obtain ⟨h1, h2, h3⟩ := h
  refine ⟨by simpa using h1, by simpa using h2, fun x hx => ?_⟩
  obtain ⟨y, hy, rfl⟩ := List.mem_map.mp hx
  have := h3 y hy
  unfold oth
  split <;> (first | lia | omega)
theorem map_set_int {r : List Int} {i : Nat} {e : Int} : (r.map V.int).set i (.int e) = (r.set i e).map V.int := by rw [List.map_set]
theorem map_ins_int {r : List Int} {k : Nat} {e : Int} : (r.map V.int).take k ++ V.int e :: (r.map V.int).drop k = (r.take k ++ e :: r.drop k).map V.int := by
  rw [List.map_append, List.map_cons, List.map_take, List.map_drop]
theorem mat_of {H H' : Hp} {R : Addr} {as : List Addr} {rows : List (List Int)} (hlen : as.length = rows.length) (nd : as.Nodup) (sm : Same H H') (hrow : ∀ (i : Nat) a l, as[i]? = some a → (rows.map fun r => r.map V.int)[i]? = some l → H' a = some (.lst l)) (hR : H' R = none) : Mat (upd H' R (.lst (as.map V.ref))) R as rows := by
  have look : ∀ (i : Nat) a r, as[i]? = some a → rows[i]? = some r → H' a = some (.lst (r.map V.int)) := fun i a r e1 e2 => hrow i a _ e1 (by rw [List.getElem?_map, e2]; rfl)
  have nR : R ∉ as := fun z => by
    obtain ⟨i, hi, e⟩ := List.getElem_of_mem z
    have hi2 : i < rows.length := by (first | lia | omega)
    have := look i R rows[i] (by rw [List.getElem?_eq_getElem hi, e]) (List.getElem?_eq_getElem hi2)
    rw [hR] at this
    cases this
  refine ⟨upd_same, hlen, fun i a r e1 e2 => ?_, List.nodup_cons.mpr ⟨nR, nd⟩⟩
  rw [upd_ne (fun z => nR (by rw [← z]; exact List.mem_of_getElem? e1))]
  exact look i a r e1 e2

def spLaw (K : PySem.W.Frag) : Sp := fun vs H Q _ => ∃ (a : Addr) (ns : List Int), vs = [.ref a] ∧ SqL K H a (ns.map V.int) ∧ ns.length ≤ 63 ∧ ∀ H', Q (.bl true) H'
theorem made_same {H H' : Hp} {p dx C : Addr} (hp : H p = none) (hdx : H dx = none) (k : ∀ b o, (upd (upd H dx (.own p)) p (.ins C dx [])) b = some o → b ≠ p → H' b = some o) : Same H H' := fun b o e =>
  k b o (by rw [upd_ne (ne_of_none e hp), upd_ne (ne_of_none e hdx)]; exact e) (ne_of_none e hp)
theorem made_none {H : Hp} {p dx C b : Addr} (h : (upd (upd H dx (.own p)) p (.ins C dx [])) b = none) : H b = none := by
  by_cases h1 : b = p
  · rw [h1, upd_same] at h; cases h
  · rw [upd_ne h1] at h
    by_cases h2 : b = dx
    · rw [h2, upd_same] at h; cases h
    · rw [upd_ne h2] at h; exact h
theorem log2_small {z : Int} (h1 : -(2 ^ 62) < z) (h2 : z < 2 ^ 62) : z.natAbs.log2 < 1920 := by
  by_cases h0 : z.natAbs = 0
  · rw [h0]; decide
  · have h3 : z.natAbs < 2 ^ 62 := by (first | lia | omega)
    have h4 := (Nat.log2_lt h0).mpr h3
    (first | lia | omega)
def spSite (C Cn : Addr) : Sp := fun vs H Q E => ∃ (p dx aR : Addr) (as : List Addr) (aT aL aS : Addr) (b : Brd) (z : Int), vs = [.ref p, .int z] ∧ BoardAt C H p dx aR as aT aL aS b ∧ -(2 ^ 62) < z ∧ z < 2 ^ 62 ∧
  (0 ≤ z ∧ z < (b.rows.length : Int) → Q .non H) ∧ (¬ (0 ≤ z ∧ z < (b.rows.length : Int)) → E (.ref Cn) none H)
def spTurn (C Cn Cp : Addr) : Sp := fun vs H Q E => ∃ (p dx aR : Addr) (as : List Addr) (aT aL aS : Addr) (b : Brd) (z y : Int), vs = [.ref p, .int z, .int y] ∧ BoardAt C H p dx aR as aT aL aS b ∧ b.turns.length = b.rows.length ∧ -(2 ^ 62) < z ∧ z < 2 ^ 62 ∧ -(2 ^ 62) < y ∧ y < 2 ^ 62 ∧
  (¬ (0 ≤ z ∧ z < (b.rows.length : Int)) → E (.ref Cn) none H) ∧
  (0 ≤ z ∧ z < (b.rows.length : Int) → ¬ (0 ≤ y ∧ y < ((b.rows.getD z.toNat []).length : Int)) → E (.ref Cp) none H) ∧
  (0 ≤ z ∧ z < (b.rows.length : Int) → 0 ≤ y ∧ y < ((b.rows.getD z.toNat []).length : Int) → Q .non (upd H aT (.lst ((b.turns.set z.toNat y).map V.int))))
def spLoad (C Cn Cm : Addr) : Sp := fun vs H Q E => ∃ (p dx aR : Addr) (as : List Addr) (aT aL aS : Addr) (b : Brd) (z y : Int), vs = [.ref p, .int z, .int y] ∧ BoardAt C H p dx aR as aT aL aS b ∧ b.loads.length = b.rows.length ∧ -(2 ^ 62) < z ∧ z < 2 ^ 62 ∧
  (¬ (0 ≤ z ∧ z < (b.rows.length : Int)) → E (.ref Cn) none H) ∧
  (0 ≤ z ∧ z < (b.rows.length : Int) → 400 < b.loads.sum + y → E (.ref Cm) none H) ∧
  (0 ≤ z ∧ z < (b.rows.length : Int) → b.loads.sum + y ≤ 400 → Q .non (upd H aL (.lst ((b.loads.set z.toNat (b.loads.getD z.toNat 0 + y)).map V.int))))
theorem _root_.Com.BoardAt.setT {C : Addr} {H : Hp} {p dx aR : Addr} {as : List Addr} {aT aL aS : Addr} {b : Brd} (B : BoardAt C H p dx aR as aT aL aS b) (ts : List Int) : BoardAt C (upd H aT (.lst (ts.map V.int))) p dx aR as aT aL aS { b with turns := ts } := by
  have n := B.nd
  simp only [List.nodup_cons, List.mem_cons, not_or] at n
  obtain ⟨⟨n1, n2, n3, n4, n5⟩, ⟨n6, n7, n8, n9⟩, _⟩ := n
  exact ⟨by rw [upd_ne n1]; exact B.ob, B.mat.upd (by simp only [List.mem_cons, not_or]; exact ⟨n8, n9⟩), upd_same, by rw [upd_ne (Ne.symm n6)]; exact B.hL, by rw [upd_ne (Ne.symm n7)]; exact B.hS, B.nd⟩
theorem _root_.Com.BoardAt.setL {C : Addr} {H : Hp} {p dx aR : Addr} {as : List Addr} {aT aL aS : Addr} {b : Brd} (B : BoardAt C H p dx aR as aT aL aS b) (ls : List Int) : BoardAt C (upd H aL (.lst (ls.map V.int))) p dx aR as aT aL aS { b with loads := ls } := by
  have n := B.nd
  simp only [List.nodup_cons, List.mem_cons, not_or] at n
  obtain ⟨⟨n1, n2, n3, n4, n5⟩, ⟨n6, n7, n8, n9⟩, ⟨n10, n11, n12⟩, _⟩ := n
  exact ⟨by rw [upd_ne n2]; exact B.ob, B.mat.upd (by simp only [List.mem_cons, not_or]; exact ⟨n11, n12⟩), by rw [upd_ne n6]; exact B.hT, upd_same, by rw [upd_ne (Ne.symm n10)]; exact B.hS, B.nd⟩
theorem getD_get {α : Type} {l : List α} {i : Nat} {d : α} (h : i < l.length) : l.getD i d = l[i] := by simp [List.getElem?_eq_getElem h]
theorem _root_.Com.Mat.at {H : Hp} {R : Addr} {as : List Addr} {rows : List (List Int)} (M : Mat H R as rows) {z : Int} (h0 : 0 ≤ z) (h1 : z < (rows.length : Int)) : ∃ c, atI (as.map V.ref) z = some (.ref c) ∧ H c = some (.lst ((rows.getD z.toNat []).map V.int)) ∧ as[z.toNat]? = some c := by
  have h : z.toNat < rows.length := by (first | lia | omega)
  obtain ⟨c, ec, hc, _⟩ := M.get h
  refine ⟨c, at_list (n := z.toNat) (by (first | lia | omega)) (by rw [List.getElem?_map, ec]; rfl), ?_, ec⟩
  rw [getD_get h]
  exact hc

def spTurns (K : PySem.W.Frag) : Sp := fun vs H Q _ => ∃ (a R : Addr) (as : List Addr) (rows : List (List Int)) (ns : List Int), vs = [.ref a, .ref R] ∧ SqL K H a (ns.map V.int) ∧ Mat H R as rows ∧ Wf rows ∧
  ∀ (l : Addr) (ts : List Int), H l = none → TurnsOk rows ts → Q (.ref l) (upd H l (.lst (ts.map V.int)))
/-- the first k of xs, then noughts -/
def part (xs : List Int) (n k : Nat) : List Int := xs.take k ++ List.replicate (n - k) 0
theorem part_len {xs : List Int} {n k : Nat} (h : xs.length = n) (hk : k ≤ n) : (part xs n k).length = n := by
  unfold part
  rw [List.length_append, List.length_take, List.length_replicate]
  (first | lia | omega)
theorem part_zero (xs : List Int) (n : Nat) : part xs n 0 = List.replicate n 0 := by unfold part; simp
theorem part_all {xs : List Int} {n : Nat} (h : xs.length = n) : part xs n n = xs := by unfold part; rw [← h]; simp
theorem part_get {xs : List Int} {n k : Nat} (h : xs.length = n) (hk : k < n) : (part xs n k).getD k 0 = 0 := by
  unfold part
  have hl : (xs.take k).length = k := by rw [List.length_take]; (first | lia | omega)
  have e : (xs.take k ++ List.replicate (n - k) (0 : Int))[k]? = some 0 := by
    rw [List.getElem?_append_right (by (first | lia | omega)), hl, Nat.sub_self, List.getElem?_replicate, if_pos (by (first | lia | omega))]
  simp [e]
theorem part_set {xs : List Int} {n k : Nat} (h : xs.length = n) (hk : k < n) : (part xs n k).set k (xs.getD k 0) = part xs n (k + 1) := by
  unfold part
  have hl : (xs.take k).length = k := by rw [List.length_take]; (first | lia | omega)
  have hx : xs[k]? = some (xs.getD k 0) := by simp [List.getElem?_eq_getElem (show k < xs.length by (first | lia | omega))]
  rw [List.set_append_right _ _ (by (first | lia | omega)), hl, Nat.sub_self, List.take_add_one, hx, show n - k = (n - (k + 1)) + 1 by (first | lia | omega), List.replicate_succ, List.set_cons_zero]
  simp
theorem part_sum {xs : List Int} {n k : Nat} : (part xs n k).sum = (xs.take k).sum := by
  unfold part
  rw [List.sum_append]
  have : (List.replicate (n - k) (0 : Int)).sum = 0 := by
    induction (n - k) with
    | zero => rfl
    | succ m ih => rw [List.replicate_succ, List.sum_cons, ih]; rfl
  (first | lia | omega)
theorem take_sum_succ {xs : List Int} {k : Nat} (h : k < xs.length) : (xs.take (k + 1)).sum = (xs.take k).sum + xs.getD k 0 := by
  rw [getD_get h, List.take_add_one, List.sum_append, List.getElem?_eq_getElem h]
  simp

/-- each site has an exit to a lesser one or the pit -/
def Down (rows : List (List Int)) : Prop := ∀ i, i < rows.length → ∃ e ∈ rows.getD i [], -1 ≤ e ∧ e < (i : Int)
theorem Down.open {rows : List (List Int)} (h : Down rows) : ∀ i, i < rows.length → rch rows i = true := by
  intro i
  induction i using Nat.strongRecOn with
  | _ i ih =>
    intro hi
    obtain ⟨e, q1, q2, q3⟩ := h i hi
    refine rch_step q1 ?_
    by_cases he : e = -1
    · exact .inl he
    · exact .inr ⟨by (first | lia | omega), ih e.toNat (by (first | lia | omega)) (by (first | lia | omega))⟩
theorem open_rev {rows : List (List Int)} {many : Int} (h : Down rows) (hb : ∀ r ∈ rows, ∀ e ∈ r, -1 ≤ e ∧ e < (rows.length : Int)) (hm : (rows.length : Int) = many) : ∀ i, i < (rows.reverse.map fun r => r.map (oth many)).length → rch (rows.reverse.map fun r => r.map (oth many)) i = true := by
  have hl : (rows.reverse.map fun r => r.map (oth many)).length = rows.length := by simp
  have key : ∀ d, d < rows.length → rch (rows.reverse.map fun r => r.map (oth many)) (rows.length - 1 - d) = true := by
    intro d
    induction d using Nat.strongRecOn with
    | _ d ih =>
      intro hd
      obtain ⟨e, q1, q2, q3⟩ := h d hd
      have hg : (rows.reverse.map fun r => r.map (oth many)).getD (rows.length - 1 - d) [] = (rows.getD d []).map (oth many) := by
        rw [List.getD_eq_getElem?_getD, List.getElem?_map, List.getElem?_reverse (by (first | lia | omega)), show rows.length - 1 - (rows.length - 1 - d) = d by (first | lia | omega), List.getElem?_eq_getElem hd, getD_get hd]
        rfl
      refine rch_step (e := oth many e) (by rw [hg]; exact List.mem_map.mpr ⟨e, q1, rfl⟩) ?_
      by_cases he : e = -1
      · left; rw [he]; rfl
      · right
        have e1 : oth many e = many - 1 - e := by unfold oth; rw [if_neg (by (first | lia | omega))]
        rw [e1]
        refine ⟨by (first | lia | omega), ?_⟩
        have := ih e.toNat (by (first | lia | omega)) (by (first | lia | omega))
        rw [show (many - 1 - e).toNat = rows.length - 1 - e.toNat by (first | lia | omega)]
        exact this
  intro i hi
  rw [hl] at hi
  have := key (rows.length - 1 - i) (by (first | lia | omega))
  rw [show rows.length - 1 - (rows.length - 1 - i) = i by (first | lia | omega)] at this
  exact this

def spRowsT (K : PySem.W.Frag) : Sp := fun vs H Q _ => ∃ (a : Addr) (ns : List Int), vs = [.ref a] ∧ SqL K H a (ns.map V.int) ∧ ∀ (R : Addr) (as : List Addr) (rows : List (List Int)) (H' : Hp), Wf rows → (∀ i, i < rows.length → rch rows i = true) → Tame rows 30 → Mat H' R as rows → Same H H' → (∀ b ∈ R :: as, H b = none) → Q (.ref R) H'
def Shp (many : Int) (rows : List (List Int)) : Prop := ∃ u, Shape rows u ∧ (sumU u rows.length ≤ 3 ∨ (many ≤ 4 ∧ ∀ i, i < rows.length → u i ≤ 2))
theorem shp_of {many : Int} {rows : List (List Int)} {big : Bool} (h : Shape rows fun _ => if big = true then 0 else 2) (hm : big = false → many ≤ 4) : Shp many rows := by
  cases big with
  | true => exact ⟨_, h, .inl (by show sumU (fun _ => 0) _ ≤ 3; rw [sumU_zero]; decide)⟩
  | false => exact ⟨_, h, .inr ⟨hm rfl, fun i _ => Nat.le_refl _⟩⟩
theorem Shp.down {many : Int} {rows : List (List Int)} (h : Shp many rows) (W : Wf rows) : Down rows := by
  obtain ⟨u, sh, _⟩ := h
  exact sh.step fun r hr e he => ((W.2.2 r hr).2.2 e he).1
theorem Shp.tame {many : Int} {rows : List (List Int)} (h : Shp many rows) (W : Wf rows) (hm : (rows.length : Int) = many) : Tame rows 30 := by
  obtain ⟨u, sh, h | ⟨h4, h2⟩⟩ := h
  · exact tame_big W sh h
  · exact tame_small W sh (by (first | lia | omega)) h2
theorem tame_oth {many : Int} {rows : List (List Int)} (T : Tame rows 30) (W : Wf rows) (hm : (rows.length : Int) = many) : Tame (rows.reverse.map fun r => r.map (oth many)) 30 := by
  have := tame_rev W T
  unfold revRows at this
  rw [hm] at this
  exact this

/-- lists beside a board -/
structure Lsts (H : Hp) (R : Addr) (as : List Addr) (tA lA cA : Addr) (b : Brd) : Prop where
  M : Mat H R as b.rows
  t : H tA = some (.lst (b.turns.map V.int))
  l : H lA = some (.lst ((b.loads ++ [b.taken]).map V.int))
  c : H cA = some (.lst (b.steps.map V.int))
  tl : tA ≠ lA
  tc : tA ≠ cA
  lc : lA ≠ cA
  nR : ∀ x ∈ [tA, lA, cA], x ∉ R :: as
theorem Lsts.keep {H H' : Hp} {R : Addr} {as : List Addr} {tA lA cA : Addr} {b : Brd} (S : Lsts H R as tA lA cA b) (k : ∀ c o, c ∈ tA :: lA :: cA :: R :: as → H c = some o → H' c = some o) : Lsts H' R as tA lA cA b :=
  { S with M := S.M.keep fun c o hc => k c o (by simp only [List.mem_cons] at hc ⊢; exact .inr (.inr (.inr hc))), t := k _ _ (by simp) S.t, l := k _ _ (by simp) S.l, c := k _ _ (by simp) S.c }
theorem Lsts.same {H H' : Hp} {R : Addr} {as : List Addr} {tA lA cA : Addr} {b : Brd} (S : Lsts H R as tA lA cA b) (s : Same H H') : Lsts H' R as tA lA cA b := S.keep fun c o _ => s c o
def spStepBy : Sp := fun vs H Q _ => ∃ (R : Addr) (as : List Addr) (tA lA cA : Addr) (b : Brd) (z : Int), vs = [.ref R, .ref tA, .ref lA, .ref cA, .int z] ∧ Lsts H R as tA lA cA b ∧ BrdOk b ∧ 0 ≤ z ∧ z < (b.rows.length : Int) ∧
  ∀ H', Lsts H' R as tA lA cA (stepB b z.toNat) → (∀ x, x ∉ tA :: lA :: cA :: R :: as → H' x = H x) → Q .non H'
def spStep (C Cn Cm : Addr) : Sp := fun vs H Q E => ∃ (p dx aR : Addr) (as : List Addr) (aT aL aS : Addr) (b : Brd) (z : Int), vs = [.ref p, .int z] ∧ BoardAt C H p dx aR as aT aL aS b ∧ BrdOk b ∧ -(2 ^ 62) < z ∧ z < 2 ^ 62 ∧
  (¬ (0 ≤ z ∧ z < (b.rows.length : Int)) → E (.ref Cn) none H) ∧ (0 ≤ z ∧ z < (b.rows.length : Int) → b.loads.getD z.toNat 0 < 1 → E (.ref Cm) none H) ∧
  (0 ≤ z ∧ z < (b.rows.length : Int) → 1 ≤ b.loads.getD z.toNat 0 → ∀ H', BoardAt C H' p dx aR as aT aL aS (stepB b z.toNat) → (∀ x, x ∉ p :: aT :: aL :: aS :: aR :: as → H' x = H x) → Q (.int (exitOf b.rows b.turns z.toNat)) H')
/-- a board, and lists beside it that tell the same -/
structure Two (C : Addr) (H : Hp) (p dx aR : Addr) (asB : List Addr) (aT aL aS R : Addr) (as : List Addr) (tA lA cA : Addr) (b b' : Brd) : Prop where
  B : BoardAt C H p dx aR asB aT aL aS b
  S : Lsts H R as tA lA cA b'
  dj : ∀ x ∈ p :: aT :: aL :: aS :: aR :: asB, x ∉ tA :: lA :: cA :: R :: as
theorem Two.same {C : Addr} {H H' : Hp} {p dx aR : Addr} {asB : List Addr} {aT aL aS R : Addr} {as : List Addr} {tA lA cA : Addr} {b b' : Brd} (S : Two C H p dx aR asB aT aL aS R as tA lA cA b b') (s : Same H H') : Two C H' p dx aR asB aT aL aS R as tA lA cA b b' := ⟨S.B.same s, S.S.same s, S.dj⟩
/-- the lists are changed -/
theorem Two.lists {C : Addr} {H H' : Hp} {p dx aR : Addr} {asB : List Addr} {aT aL aS R : Addr} {as : List Addr} {tA lA cA : Addr} {b b' b2 : Brd} (S : Two C H p dx aR asB aT aL aS R as tA lA cA b b') (L : Lsts H' R as tA lA cA b2) (f : ∀ x, x ∉ tA :: lA :: cA :: R :: as → H' x = H x) : Two C H' p dx aR asB aT aL aS R as tA lA cA b b2 :=
  ⟨S.B.keep fun c o hc e => by rw [f c (S.dj c hc)]; exact e, L, S.dj⟩
/-- the board is changed -/
theorem Two.board {C : Addr} {H H' : Hp} {p dx aR : Addr} {asB : List Addr} {aT aL aS R : Addr} {as : List Addr} {tA lA cA : Addr} {b b' b2 : Brd} (S : Two C H p dx aR asB aT aL aS R as tA lA cA b b') (L : BoardAt C H' p dx aR asB aT aL aS b2) (f : ∀ x, x ∉ p :: aT :: aL :: aS :: aR :: asB → H' x = H x) : Two C H' p dx aR asB aT aL aS R as tA lA cA b2 b' :=
  ⟨L, S.S.keep fun c o hc e => by rw [f c (fun z => S.dj c z hc)]; exact e, S.dj⟩
theorem gone_set {l1 : List Int} {t g : Int} (h0 : -1 ≤ g) (h1 : g < (l1.length : Int)) : ∃ j x, ixN ((l1 ++ [t]).map V.int).length g = some j ∧ atI ((l1 ++ [t]).map V.int) g = some (V.int x) ∧ (l1 ++ [t]).set j (x + 1) = (if g = -1 then l1 else l1.set g.toNat (l1.getD g.toNat 0 + 1)) ++ [if g = -1 then t + 1 else t] := by
  by_cases e : g = -1
  · subst e
    refine ⟨l1.length, t, ?_, at_last_int l1 t, ?_⟩
    · unfold ixN
      rw [if_neg (by decide), List.length_map, List.length_append, List.length_singleton, if_pos (by (first | lia | omega))]
      congr 1
      (first | lia | omega)
    · rw [if_pos rfl, if_pos rfl, List.set_append_right _ _ (Nat.le_refl _), Nat.sub_self]
      rfl
  · have h2 : g.toNat < l1.length := by (first | lia | omega)
    refine ⟨g.toNat, l1.getD g.toNat 0, ixN_in (by (first | lia | omega)) (by rw [List.length_map, List.length_append, List.length_singleton]; (first | lia | omega)), ?_, ?_⟩
    · have := at_ints (ns := l1 ++ [t]) (i := g) (by (first | lia | omega)) (by rw [List.length_append, List.length_singleton]; (first | lia | omega))
      rw [List.getD_eq_getElem?_getD, List.getElem?_append_left h2, ← List.getD_eq_getElem?_getD] at this
      exact this
    · rw [if_neg e, if_neg e, List.set_append_left _ _ h2]
theorem at_app {ls : List Int} {t z : Int} (h0 : 0 ≤ z) (h1 : z < (ls.length : Int)) : atI ((ls ++ [t]).map V.int) z = some (V.int (ls.getD z.toNat 0)) := by
  have := at_ints (ns := ls ++ [t]) (i := z) h0 (by rw [List.length_append, List.length_singleton]; (first | lia | omega))
  rw [List.getD_eq_getElem?_getD, List.getElem?_append_left (by (first | lia | omega)), ← List.getD_eq_getElem?_getD] at this
  exact this
theorem take_sum_le {ls : List Int} (h : ∀ i, 0 ≤ ls.getD i 0) : ∀ k, (ls.take k).sum ≤ ls.sum := by
  induction ls with
  | nil => intro k; simp
  | cons x r ih =>
    intro k
    have h0 : 0 ≤ x := h 0
    have hr : ∀ i, 0 ≤ r.getD i 0 := fun i => h (i + 1)
    cases k with
    | zero =>
      have := ih hr 0
      simp only [List.take_zero, List.sum_nil, List.sum_cons] at this ⊢
      (first | lia | omega)
    | succ k =>
      have := ih hr k
      rw [List.take_succ_cons, List.sum_cons, List.sum_cons]
      (first | lia | omega)
theorem snoc_int (ls : List Int) (t : Int) : ls.map V.int ++ [V.int t] = (ls ++ [t]).map V.int := by simp
theorem putF_taken (aR aT aL aS : Addr) (z y : Int) : putF "taken" (.int y) (bflds aR aT aL aS z) = bflds aR aT aL aS y := by
  have n (f g : Str) (h : f ≠ g) (v u : V) (r : List (Str × V)) : putF g v ((f, u) :: r) = (f, u) :: putF g v r := by
    show (if f = g then (f, v) :: r else (f, u) :: putF g v r) = _
    rw [if_neg h]
  unfold bflds
  rw [n _ _ (by decide +kernel), n _ _ (by decide +kernel), n _ _ (by decide +kernel), n _ _ (by decide +kernel)]
  rfl
theorem _root_.Com.BoardAt.setS {C : Addr} {H : Hp} {p dx aR : Addr} {as : List Addr} {aT aL aS : Addr} {b : Brd} (B : BoardAt C H p dx aR as aT aL aS b) (ls : List Int) : BoardAt C (upd H aS (.lst (ls.map V.int))) p dx aR as aT aL aS { b with steps := ls } := by
  have n := B.nd
  simp only [List.nodup_cons, List.mem_cons, not_or] at n
  obtain ⟨⟨n1, n2, n3, n4, n5⟩, ⟨n6, n7, n8, n9⟩, ⟨n10, n11, n12⟩, ⟨n13, n14⟩, _⟩ := n
  exact ⟨by rw [upd_ne n3]; exact B.ob, B.mat.upd (by simp only [List.mem_cons, not_or]; exact ⟨n13, n14⟩), by rw [upd_ne n7]; exact B.hT, by rw [upd_ne n10]; exact B.hL, upd_same, B.nd⟩
theorem _root_.Com.BoardAt.setP {C : Addr} {H : Hp} {p dx aR : Addr} {as : List Addr} {aT aL aS : Addr} {b : Brd} (B : BoardAt C H p dx aR as aT aL aS b) (y : Int) : BoardAt C (upd H p (.ins C dx (bflds aR aT aL aS y))) p dx aR as aT aL aS { b with taken := y } := by
  have n := B.nd
  simp only [List.nodup_cons, List.mem_cons, not_or] at n
  obtain ⟨⟨n1, n2, n3, n4, n5⟩, _⟩ := n
  exact ⟨upd_same, B.mat.upd (by simp only [List.mem_cons, not_or]; exact ⟨n4, n5⟩), by rw [upd_ne (Ne.symm n1)]; exact B.hT, by rw [upd_ne (Ne.symm n2)]; exact B.hL, by rw [upd_ne (Ne.symm n3)]; exact B.hS, B.nd⟩

theorem kit_self {K : PySem.W.Frag} {c : Addr} : PySem.W.kitOne K (.ref c) (.ref c) = some true := by
  unfold PySem.W.kitOne
  simp
theorem board_in {C : Addr} {H : Hp} {p dx aR : Addr} {asB : List Addr} {aT aL aS : Addr} {b : Brd} (B : BoardAt C H p dx aR asB aT aL aS b) : ∀ x ∈ p :: aT :: aL :: aS :: aR :: asB, ∃ o, H x = some o := fun c hc => by
  simp only [List.mem_cons] at hc
  rcases hc with rfl | rfl | rfl | rfl | rfl | hc
  · exact ⟨_, B.ob⟩
  · exact ⟨_, B.hT⟩
  · exact ⟨_, B.hL⟩
  · exact ⟨_, B.hS⟩
  · exact ⟨_, B.mat.hd⟩
  · obtain ⟨i, hi, ei⟩ := List.getElem_of_mem hc
    obtain ⟨c', e1, e2, _⟩ := B.mat.get (i := i) (by rw [← B.mat.len]; exact hi)
    rw [List.getElem?_eq_getElem hi, ei] at e1
    cases e1
    exact ⟨_, e2⟩
theorem mat_in {H : Hp} {R : Addr} {as : List Addr} {rows : List (List Int)} (M : Mat H R as rows) : ∀ x ∈ R :: as, ∃ o, H x = some o := fun c hc => by
  rcases List.mem_cons.mp hc with y | y
  · rw [y]; exact ⟨_, M.hd⟩
  · obtain ⟨i, hi, ei⟩ := List.getElem_of_mem y
    obtain ⟨c', e1, e2, _⟩ := M.get (i := i) (by rw [← M.len]; exact hi)
    rw [List.getElem?_eq_getElem hi, ei] at e1
    cases e1
    exact ⟨_, e2⟩
theorem mat_no {H : Hp} {R : Addr} {as : List Addr} {rows : List (List Int)} (M : Mat H R as rows) {t : Addr} (hn : H t = none) : t ∉ R :: as := fun z => by
  obtain ⟨o, e⟩ := mat_in M t z
  rw [hn] at e
  cases e
theorem Lsts.ins {H : Hp} {R : Addr} {as : List Addr} {tA lA cA : Addr} {b : Brd} (S : Lsts H R as tA lA cA b) : ∀ x ∈ tA :: lA :: cA :: R :: as, ∃ o, H x = some o := fun c hc => by
  simp only [List.mem_cons] at hc
  rcases hc with rfl | rfl | rfl | hc
  · exact ⟨_, S.t⟩
  · exact ⟨_, S.l⟩
  · exact ⟨_, S.c⟩
  · exact mat_in S.M c (List.mem_cons.mpr hc)
section
variable {C : Addr} {H0 H H' : Hp} {p dx aR : Addr} {asB : List Addr} {aT aL aS R : Addr} {as : List Addr} {tA lA cA : Addr} {b b' b2 : Brd}
end

section
variable {C : Addr} {H : Hp} {p dx aR : Addr} {as : List Addr} {aT aL aS : Addr} {b : Brd}
end
def Jn (b : Brd) (i : Nat) : Str := Str.join (Str.ofString "\n") ((linesS b).take (i + 1))
theorem Jn_len {b : Brd} (S : BSm b) {i : Nat} (h : i ≤ b.rows.length) : (Jn b i).length ≤ 6000 := by
  have h1 := join_len (Str.ofString "\n") (B := 400) (l := (linesS b).take (i + 1)) fun y hy => S.lines y (List.mem_of_mem_take hy)
  rw [nl_len, List.length_take] at h1
  have h12 := S.O.W.2.1
  have : min (i + 1) (linesS b).length * (400 + 1) ≤ 13 * (400 + 1) := Nat.mul_le_mul (by (first | lia | omega)) (Nat.le_refl _)
  show (Str.join _ _).length ≤ 6000
  (first | lia | omega)
theorem Jn_next {b : Brd} {i : Nat} (h : i < b.rows.length) : Jn b (i + 1) = Jn b i ++ Str.ofString "\n" ++ siteS b i := by
  unfold Jn
  rw [lines_get h, join_snoc]
  unfold linesS
  simp
theorem Jn_end {b : Brd} : Jn b b.rows.length = textS b := by
  unfold Jn textS
  rw [List.take_of_length_le]
  unfold linesS
  simp
theorem Jn_start {b : Brd} : Str.ofString "board " ++ Str.ofString (toString b.taken) = Jn b 0 := by
  have : Str.ofString "board " = Str.ofString "board" ++ Str.ofString " " := by decide +kernel
  rw [this]
  rfl
def Ln (t l s : Int) (r : List Int) (m : Nat) : Str := Str.join (Str.ofString " ") ((lineW t l s r).take (4 + m))
theorem Ln_start {t l s : Int} {r : List Int} : Ln t l s r 0 = numS t ++ Str.ofString " " ++ numS l ++ Str.ofString " " ++ numS s ++ Str.ofString " >" := by
  have : Str.ofString " >" = Str.ofString " " ++ Str.ofString ">" := by decide +kernel
  rw [this]
  show numS t ++ Str.ofString " " ++ (numS l ++ Str.ofString " " ++ (numS s ++ Str.ofString " " ++ Str.ofString ">")) = _
  simp only [Str.append_assoc]
theorem Ln_next {t l s : Int} {r : List Int} {m : Nat} {e : Int} (h : r[m]? = some e) : Ln t l s r (m + 1) = Ln t l s r m ++ Str.ofString " " ++ wordS e := by
  unfold Ln
  have e1 : (lineW t l s r).take (4 + (m + 1)) = (lineW t l s r).take (4 + m) ++ [wordS e] := by
    rw [show 4 + (m + 1) = (4 + m) + 1 by (first | lia | omega), List.take_add_one]
    congr 1
    show ((numS t :: numS l :: numS s :: Str.ofString ">" :: r.map wordS)[4 + m]?).toList = _
    rw [show 4 + m = m + 1 + 1 + 1 + 1 by (first | lia | omega)]
    simp only [List.getElem?_cons_succ, List.getElem?_map, h]
    rfl
  rw [e1, join_snoc]
  unfold lineW
  rw [show 4 + m = m + 3 + 1 by (first | lia | omega)]
  simp
theorem Ln_end {t l s : Int} {r : List Int} : Ln t l s r r.length = lineS t l s r := by
  unfold Ln lineS
  rw [List.take_of_length_le]
  unfold lineW
  rw [List.length_append, List.length_append, List.length_map]
  exact Nat.le_refl _
theorem Ln_len {t l s : Int} {r : List Int} {m : Nat} (h1 : Sm t) (h2 : Sm l) (h3 : Sm s) (hr : ∀ e ∈ r, Sm e) (h8 : r.length ≤ 8) : (Ln t l s r m).length ≤ 400 := by
  have h := join_len (Str.ofString " ") (B := 31) (l := (lineW t l s r).take (4 + m)) fun y hy => lineW_len h1 h2 h3 hr y (List.mem_of_mem_take hy)
  rw [sp_len, List.length_take] at h
  have hl : (lineW t l s r).length ≤ 12 := by
    unfold lineW
    rw [List.length_append, List.length_append, List.length_map]
    show 3 + 1 + _ ≤ 12
    (first | lia | omega)
  have : min (4 + m) (lineW t l s r).length * (31 + 1) ≤ 12 * (31 + 1) := Nat.mul_le_mul (by (first | lia | omega)) (Nat.le_refl _)
  show (Str.join _ _).length ≤ 400
  (first | lia | omega)
theorem gt_len : (Str.ofString " >").length = 2 := by decide +kernel
theorem bd_len : (Str.ofString "board ").length = 6 := by decide +kernel
theorem word_lt {e : Int} (h : -1 ≤ e) : wordS e = if e < 0 then Str.ofString "pit" else numS e := by
  unfold wordS
  by_cases h1 : e = -1
  · rw [if_pos h1, if_pos (by (first | lia | omega))]
  · rw [if_neg h1, if_neg (by (first | lia | omega))]
def spWay : Sp := fun vs H Q _ => ∃ e : Int, vs = [.int e] ∧ Sm e ∧ Q (.str (wordS e)) H
def spSiteL (C : Addr) : Sp := fun vs H Q _ => ∃ (p dx aR : Addr) (as : List Addr) (aT aL aS : Addr) (b : Brd) (i : Nat), vs = [.ref p, .int (i : Int)] ∧ BoardAt C H p dx aR as aT aL aS b ∧ BSm b ∧ i < b.rows.length ∧ ∀ H', Same H H' → Q (.str (siteS b i)) H'
def spWrit (C : Addr) : Sp := fun vs H Q _ => ∃ (p dx aR : Addr) (as : List Addr) (aT aL aS : Addr) (b : Brd), vs = [.ref p] ∧ BoardAt C H p dx aR as aT aL aS b ∧ BSm b ∧ ∀ H', Same H H' → Q (.str (textS b)) H'
def spRdN : Sp := fun vs H Q _ => ∃ n : Int, vs = [.str (numS n)] ∧ Nu n ∧ ∀ H', Same H H' → Q (.int n) H'
def spRdW : Sp := fun vs H Q _ => ∃ e : Int, vs = [.str (wordS e)] ∧ (e = -1 ∨ Nu e) ∧ ∀ H', Same H H' → Q (.int e) H'
def spRdR (K : PySem.W.Frag) : Sp := fun vs H Q _ => ∃ (a : Addr) (t l s : Int) (r : List Int), vs = [.ref a] ∧ SqL K H a ((lineW t l s r).map V.str) ∧ (∀ e ∈ r, e = -1 ∨ Nu e) ∧ r.length ≤ 8 ∧ ∀ D H', Same H H' → H D = none → H' D = some (.lst (r.map V.int)) → Q (.ref D) H'
def spRdS (K : PySem.W.Frag) : Sp := fun vs H Q _ => ∃ (a : Addr) (t l s : Int) (r : List Int), vs = [.ref a] ∧ SqL K H a ((lineW t l s r).map V.str) ∧ Nu t ∧ Nu l ∧ Nu s ∧ ∀ D H', Same H H' → H D = none → H' D = some (.lst ([t, l, s].map V.int)) → Q (.ref D) H'
def spRdH (K : PySem.W.Frag) : Sp := fun vs H Q _ => ∃ (a : Addr) (w : Int), vs = [.ref a] ∧ SqL K H a ((headW w).map V.str) ∧ Nu w ∧ ∀ H', Same H H' → Q (.int w) H'

/-- a board that is told: its numbers site by site -/
def numsB (b : Brd) : List (List Int) := (List.range b.rows.length).map fun i => [b.turns.getD i 0, b.loads.getD i 0, b.steps.getD i 0]
def spTldB (C : Addr) : Sp := fun vs H Q _ => ∃ (R N : Addr) (as ns : List Addr) (b : Brd), vs = [.ref R, .ref N] ∧ Mat H R as b.rows ∧ Mat H N ns (numsB b) ∧ BNu b ∧ b.taken = 0 ∧
  ∀ (p dx aR : Addr) (asB : List Addr) (aT aL aS : Addr) (H' : Hp), BoardAt C H' p dx aR asB aT aL aS b → Same H H' → (∀ c ∈ p :: aT :: aL :: aS :: aR :: asB, H c = none) → Q (.ref p) H'
def spRead (C : Addr) : Sp := fun vs H Q _ => ∃ b : Brd, vs = [.str (textS b)] ∧ BNu b ∧
  ∀ (p dx aR : Addr) (asB : List Addr) (aT aL aS : Addr) (H' : Hp), BoardAt C H' p dx aR asB aT aL aS b → Same H H' → (∀ c ∈ p :: aT :: aL :: aS :: aR :: asB, H c = none) → Q (.ref p) H'

def spNumBy (K : PySem.W.Frag) : Sp := fun vs H Q _ => ∃ (a : Addr) (ns : List Int) (k : Int), vs = [.ref a, .int k] ∧ SqL K H a (ns.map V.int) ∧ 0 ≤ k ∧ k ≤ 1000 ∧ ∀ n H', Nu n → Same H H' → Q (.int n) H'
def spShw (K : PySem.W.Frag) : Sp := fun vs H Q _ => ∃ (R : Addr) (as : List Addr) (tA yA cA : Addr) (b : Brd), vs = [.ref R, .ref tA, .ref yA, .ref cA] ∧ Lsts H R as tA yA cA b ∧ BSm b ∧ Q (.str (textS b)) H
theorem p20 : (10 : Int) ^ (20 : Int).toNat = 100000000000000000000 := by decide +kernel
theorem getD_all {P : Int → Prop} {ls : List Int} (h : ∀ x ∈ ls, P x) {d : Nat} (hd : d < ls.length) : P (ls.getD d 0) := by
  rw [getD_get hd]
  exact h _ (List.getElem_mem hd)

def lsBy (ns : List Int) (n : Nat) : List Int := (List.range n).map fun (i : Nat) => drawn ns (700 + (0 + (i : Int))) 34
theorem lsBy_len (ns : List Int) (n : Nat) : (lsBy ns n).length = n := by unfold lsBy; simp
theorem lsBy_get (ns : List Int) {n i : Nat} (h : i < n) : (lsBy ns n).getD i 0 = drawn ns (700 + (0 + (i : Int))) 34 := by
  unfold lsBy
  rw [getD_get (by simpa using h), List.getElem_map, List.getElem_range]
theorem lsBy_nn (ns : List Int) (n i : Nat) : 0 ≤ (lsBy ns n).getD i 0 ∧ (lsBy ns n).getD i 0 ≤ 33 := by
  by_cases h : i < n
  · rw [lsBy_get ns h]
    have := drawn_nn ns (700 + (0 + (i : Int))) (many := 34) (by decide)
    have := drawn_lt ns (700 + (0 + (i : Int))) (many := 34) (by decide)
    (first | lia | omega)
  · rw [List.getD_eq_getElem?_getD, List.getElem?_eq_none (by rw [lsBy_len]; (first | lia | omega))]
    exact ⟨by decide, by decide⟩
theorem sum_33 : ∀ {ls : List Int}, (∀ x ∈ ls, x ≤ 33) → ls.sum ≤ 33 * (ls.length : Int)
  | [], _ => by simp
  | x :: ls, h => by
    have := sum_33 fun y hy => h y (List.mem_cons_of_mem _ hy)
    have := h x List.mem_cons_self
    rw [List.sum_cons, List.length_cons]
    (first | lia | omega)
theorem lsBy_sum (ns : List Int) {n : Nat} (h : n ≤ 12) : (lsBy ns n).sum ≤ 396 := by
  have := sum_33 (ls := lsBy ns n) fun x hx => by
    obtain ⟨i, hi, rfl⟩ := List.getElem_of_mem hx
    have := (lsBy_nn ns n i).2
    rw [getD_get hi] at this
    exact this
  rw [lsBy_len] at this
  (first | lia | omega)
def p24 (b : Brd) : V → Bool
  | .int i => decide (0 < b.loads.getD i.toNat 0) && decide ((if b.taken > b.steps.getD i.toNat 0 then b.taken else b.steps.getD i.toNat 0) < 10 ^ (19 : Int).toNat)
  | _ => false
def lad24 (b : Brd) (n : Nat) : List V := ((List.range n).map fun (i : Nat) => V.int (0 + (i : Int))).filter (p24 b)
theorem lad24_mem {b : Brd} {n : Nat} {x : V} (h : x ∈ lad24 b n) : ∃ s : Nat, s < n ∧ x = V.int (s : Int) ∧ 1 ≤ b.loads.getD s 0 := by
  unfold lad24 at h
  obtain ⟨h1, h2⟩ := List.mem_filter.mp h
  obtain ⟨s, hs, rfl⟩ := List.mem_map.mp h1
  rw [List.mem_range] at hs
  refine ⟨s, hs, by rw [Int.zero_add], ?_⟩
  unfold p24 at h2
  rw [Bool.and_eq_true] at h2
  have := of_decide_eq_true h2.1
  rw [show (0 + (s : Int)).toNat = s by (first | lia | omega)] at this
  (first | lia | omega)
section
variable {P : Program} {w : World} {K : PySem.W.Frag} {mg : Str → Option Value} {base : Heap} {A : Adr}
theorem sc_read_number : FnScope ["word"] ["word"] (defScope s_read_number) := ⟨rfl, rfl, rfl, by decide +kernel, rfl, by decide +kernel, by decide +kernel⟩
theorem ok_read_number (T : Txt K mg A) : FnOk P w K mg base CX0 1 A.f_read_number A.fd_read_number ["word"] spRdN := by
  refine T.F_read_number.ok sc_read_number (fun vs H Q E h => ?_) (fun cdv A' outer s H vs Q E hr h => ?_)
  · obtain ⟨n, rfl, _⟩ := h
    rfl
  · obtain ⟨n, rfl, N, q⟩ := h
    refine ⟨_, (pss_cons (ps_if (PW.pt (pw_or (pt_not (pt_chain op_le op_le pe_int (pe_callB call_len_str (by rfl) T.n_len PySem.boot_len (pa_cons (pv 0) pa_nil)) (pe_glob (v := .int (20)) (by rfl) T.g_MOST_FIGURES ⟨_, rfl⟩))) (pw_or1 (pt_not (pt_val (pe_callB (call_allK (K := K) rfl rfl) (by rfl) T.n_all PyProof.Rows.Boot.«all» (pa_cons (pe_comp (CompSc.of (N' := ["sign"]) (ix := [none]) rfl (by kernel_rfl)) rfl rfl rfl rfl (pi_str (pv 0)) (by exact fun _ _ _ _ _ => pf_nil) (by exact fun _ _ _ _ _ => (pe_cmpR op_in_str (pv 0) (pe_glob (v := .str "0123456789") (by rfl) T.g_FIGURES ⟨_, rfl⟩) (by with_unfolding_all rfl))) (fun _ => rfl)) pa_nil)))))))
        (pss_one ps_never)
        pss_nil)
      (pss_cons (ps_if (PW.pt (pw_and (pt_cmpR op_eq (pe_ix ix_str (pv 0) pe_int (fun _ _ => rfl)) pe_str (nomark _)) (pw_and1 (pt_cmpR op_ne (pv 0) pe_str (nomark _)))))
        (pss_one ps_never)
        pss_nil)
      (pss_one (ps_ret (pe_callTy call_int_str (by rfl) T.n_int PyProof.Rows.Boot.«int» (pa_cons (pv 0) pa_nil)))))), ?_⟩
    have l1 := num_pos N.1
    have l2 := num_le N
    have hd := num_digit N.1
    refine ⟨_, rfl, _, rfl, size_of (by (first | lia | omega)), _, _, rfl, rfl, _, rfl, ?_⟩
    rw [decide_eq_true (show (1 : Int) ≤ ((numS n).length : Int) by (first | lia | omega))]
    refine iteT ?_
    refine ⟨_, _, rfl, rfl, _, rfl, ?_⟩
    rw [decide_eq_true (show ((numS n).length : Int) ≤ 20 by (first | lia | omega))]
    refine iteF ?_
    refine ⟨_, rfl, _, rfl, ascii_of hd, ?_⟩
    refine comp_pure (ys := (List.replicate (signsV (numS n)).length true).map V.bl) (wk_str (z := numS n)) (by rw [signsV, List.length_map]; exact size_of (by have e : (numS n).cps.toList.length = (numS n).length := Array.length_toList; (first | lia | omega))) (by simp) (fun i x y ex ey Q' q' => ?_) (fun D hD => ?_)
    · rw [signsV, List.getElem?_map] at ex
      cases ec : (numS n).cps.toList[i]? with
      | none => rw [ec] at ex; cases ex
      | some c =>
        rw [ec] at ex
        cases ex
        have hc := hd c (List.mem_of_getElem? ec)
        have ey' : y = V.bl true := by
          rw [List.getElem?_map, List.getElem?_replicate] at ey
          split at ey <;> cases ey
          rfl
        subst ey'
        refine ⟨_, rfl, _, _, rfl, rfl, ?_⟩
        rw [fig_in c hc.1 hc.2]
        exact q'
    refine ⟨D, _, rfl, SqL.of upd_same, _, rfl, ?_⟩
    have ea : (List.replicate (signsV (numS n)).length true).all id = true := by simp
    rw [ea]
    refine iteF ?_
    have s1 : Same H (upd H D (.lst ((List.replicate (signsV (numS n)).length true).map V.bl))) := same_new hD
    generalize upd H D (.lst ((List.replicate (signsV (numS n)).length true).map V.bl)) = H1 at s1
    obtain ⟨c, hc⟩ : ∃ c, (numS n).cps[0]? = some c := by
      have e : (numS n).cps.size = (numS n).length := rfl
      exact ⟨_, Array.getElem?_eq_getElem (by (first | lia | omega))⟩
    have hat : atI (numS n).cps.toList 0 = some c := at_list (n := 0) rfl (by simpa using hc)
    have e0 : Str.ofString "0" = ⟨#[48]⟩ := by decide +kernel
    refine ⟨_, rfl, _, _, c, rfl, rfl, size_of (by (first | lia | omega)), hat, rfl, _, rfl, ?_⟩
    refine ite2 (fun h1 => ?_) (fun h1 => ?_)
    · have ec : c = 48 := by
        have h2 := of_decide_eq_true h1
        rw [e0] at h2
        injection h2 with h2
        injection h2 with h2
        simpa using h2
      have en := num_lead N.1 hc ec
      refine ⟨_, rfl, rfl, _, rfl, ?_⟩
      rw [decide_eq_true (show V.str (numS n) = V.str (Str.ofString "0") by rw [en])]
      refine iteF ?_
      exact ⟨_, rfl, _, n, rfl, num_int N, by (first | lia | omega), q _ s1⟩
    · exact ⟨_, rfl, _, n, rfl, num_int N, by (first | lia | omega), q _ s1⟩
theorem sc_read_way : FnScope ["word"] ["word"] (defScope s_read_way) := ⟨rfl, rfl, rfl, by decide +kernel, rfl, by decide +kernel, by decide +kernel⟩
theorem ok_read_way (T : Txt K mg A) (G_read_number : FnOk P w K mg base CX0 1 A.f_read_number A.fd_read_number ["word"] spRdN) : FnOk P w K mg base CX0 2 A.f_read_way A.fd_read_way ["word"] spRdW := by
  refine T.F_read_way.ok sc_read_way (fun vs H Q E h => ?_) (fun cdv A' outer s H vs Q E hr h => ?_)
  · obtain ⟨e, rfl, _⟩ := h
    rfl
  · obtain ⟨e, rfl, N, q⟩ := h
    refine ⟨_, (pss_one (ps_ret (pe_ifExp (pt_cmpR op_eq (pv 0) (pe_glob (v := .str "pit") (by rfl) T.g_PIT_WORD ⟨_, rfl⟩) (nomark _)) (pe_glob (v := .int (-1)) (by rfl) T.g_PIT ⟨_, rfl⟩) (pe_call G_read_number (hr.mono (by decide)) (by rfl) T.m_read_number T.k_read_number T.b_read_number .nil pass0 (pa_cons (pv 0) pa_nil))))), ?_⟩
    refine ⟨_, rfl, rfl, _, rfl, ?_⟩
    refine ite2 (fun h1 => ?_) (fun h1 => ?_)
    · have h2 := of_decide_eq_true h1
      injection h2 with h2
      have e1 := word_pit N h2
      subst e1
      exact q _ (Same.refl _)
    · have ne : e ≠ -1 := fun z => h1 (by rw [z]; exact decide_eq_true rfl)
      have ew : wordS e = numS e := by unfold wordS; rw [if_neg ne]
      have Ne : Nu e := N.resolve_left ne
      exact ⟨_, rfl, e, (by rw [ew]; rfl), Ne, q⟩
theorem sc_read_row : FnScope ["words"] ["words"] (defScope s_read_row) := ⟨rfl, rfl, rfl, by decide +kernel, rfl, by decide +kernel, by decide +kernel⟩
theorem ok_read_row (T : Txt K mg A) (G_read_way : FnOk P w K mg base CX0 2 A.f_read_way A.fd_read_way ["word"] spRdW) : FnOk P w K mg base CX0 3 A.f_read_row A.fd_read_row ["words"] (spRdR K) := by
  refine T.F_read_row.ok sc_read_row (fun vs H Q E h => ?_) (fun cdv A' outer s H vs Q E hr h => ?_)
  · obtain ⟨a, t, l, s', r, rfl, _⟩ := h
    rfl
  · obtain ⟨a, t, l, s', r, rfl, hS, hr', h8, q⟩ := h
    refine ⟨_, (pss_one (ps_ret (pe_comp (CompSc.of (N' := ["word"]) (ix := [none]) rfl (by kernel_rfl)) rfl rfl rfl rfl (pi_listK (K := K) rfl (pe_slice (sl_listK (K := K) rfl) (pv 0) (po_some pe_int) po_none)) (by exact fun _ _ _ _ _ => pf_nil) (by exact fun _ _ _ _ _ => (pe_call G_read_way (hr.mono (by decide)) (by rfl) T.m_read_way T.k_read_way T.b_read_way .nil pass0 (pa_cons (pv 0) pa_nil))) (fun _ => rfl)))), ?_⟩
    rw [lineW_map] at hS
    refine ⟨_, rfl, _, rfl, _, _, rfl, hS, fun p hp => ?_⟩
    rw [show (4 : Int) = ((4 : Nat) : Int) from rfl, cut_from (by simp)]
    have s1 : Same H (upd H p (.lst ((r.map wordS).map V.str))) := same_new hp
    have e1 : (upd H p (.lst ((r.map wordS).map V.str))) p = some (.lst ((r.map wordS).map V.str)) := upd_same
    refine ⟨p, rfl, ⟨_, SqL.of upd_same⟩, ?_⟩
    show CompW _ _ _ _ _ _ (upd H p (.lst ((r.map wordS).map V.str)))
    generalize upd H p (.lst ((r.map wordS).map V.str)) = H1 at s1 e1
    refine comp_valsS (ys := r.map V.int) (wk_list (K := K) (SqL.of e1)) (by rw [List.length_map, List.length_map]; exact small12 (by (first | lia | omega))) (by simp) (fun i x y H3 ex ey s3 Q' q' => ?_) (fun H' D s' hD => ?_)
    · rw [List.getElem?_map] at ex ey
      rw [List.getElem?_map] at ex
      cases er : r[i]? with
      | none => rw [er] at ex; cases ex
      | some e =>
        rw [er] at ex ey
        cases ex
        cases ey
        exact ⟨_, rfl, e, rfl, hr' e (List.mem_of_getElem? er), q'⟩
    · exact q D _ (same_upd (s1.trans s') (s1.free (s'.free hD))) (s1.free (s'.free hD)) upd_same
theorem sc_read_numbers : FnScope ["words"] ["words"] (defScope s_read_numbers) := ⟨rfl, rfl, rfl, by decide +kernel, rfl, by decide +kernel, by decide +kernel⟩
theorem ok_read_numbers (T : Txt K mg A) (G_read_number : FnOk P w K mg base CX0 1 A.f_read_number A.fd_read_number ["word"] spRdN) : FnOk P w K mg base CX0 2 A.f_read_numbers A.fd_read_numbers ["words"] (spRdS K) := by
  refine T.F_read_numbers.ok sc_read_numbers (fun vs H Q E h => ?_) (fun cdv A' outer s H vs Q E hr h => ?_)
  · obtain ⟨a, t, l, s', r, rfl, _⟩ := h
    rfl
  · obtain ⟨a, t, l, s', r, rfl, hS, Nt, Nl, Ns, q⟩ := h
    have hul : _ + (0 + 1) < cLine := Nat.lt_of_le_of_lt (Nat.add_le_add_left (by decide : 0 + 1 ≤ 64) _) hr.units
    refine ⟨_, (pss_cons (ps_if (pt_cmpR (op_neLK (K := K) 0 rfl hul) (pe_slice (sl_listK (K := K) rfl) (pv 0) (po_some pe_int) (po_some pe_int)) (pe_lst (pa_cons (pe_glob (v := .str ">") (by rfl) T.g_MARK ⟨_, rfl⟩) pa_nil)) (nomark _))
        (pss_one ps_never)
        pss_nil)
      (pss_one (ps_ret (pe_comp (CompSc.of (N' := ["word"]) (ix := [none]) rfl (by kernel_rfl)) rfl rfl rfl rfl (pi_listK (K := K) rfl (pe_slice (sl_listK (K := K) rfl) (pv 0) po_none (po_some pe_int))) (by exact fun _ _ _ _ _ => pf_nil) (by exact fun _ _ _ _ _ => (pe_call G_read_number (hr.mono (by decide)) (by rfl) T.m_read_number T.k_read_number T.b_read_number .nil pass0 (pa_cons (pv 0) pa_nil))) (fun _ => rfl))))), ?_⟩
    rw [lineW_map] at hS
    refine ⟨_, rfl, _, rfl, _, rfl, _, _, rfl, hS, fun p hp => ?_⟩
    rw [show (3 : Int) = ((3 : Nat) : Int) from rfl, show (4 : Int) = ((4 : Nat) : Int) from rfl, cut_mid (by decide) (by simp)]
    have s1 : Same H (upd H p (.lst [V.str (Str.ofString ">")])) := same_new hp
    have e1 : (upd H p (.lst [V.str (Str.ofString ">")])) p = some (.lst [V.str (Str.ofString ">")]) := upd_same
    show tLst _ _ (upd H p (.lst [V.str (Str.ofString ">")])) _
    generalize upd H p (.lst [V.str (Str.ofString ">")]) = H1 at s1 e1
    refine ⟨small12 (by show 1 ≤ 100; decide), fun l2 hl2 => ⟨⟨p, l2, _, _, rfl, rfl, SqL.of (same_new hl2 _ _ e1), SqL.of upd_same, rfl, fun i u v eu ev => ?_⟩, _, rfl, ?_⟩⟩
    · match i, eu, ev with
      | 0, eu, ev => cases eu; cases ev; exact ⟨rfl, rfl, by simp [eqV]⟩
      | i + 1, eu, _ => simp at eu
    refine iteF ?_
    have s2 : Same H (upd H1 l2 (.lst [V.str (Str.ofString ">")])) := same_upd s1 (s1.free hl2)
    show tNext _ _ (upd H1 l2 (.lst [V.str (Str.ofString ">")]))
    generalize upd H1 l2 (.lst [V.str (Str.ofString ">")]) = H2 at s2
    refine ⟨_, rfl, _, rfl, _, _, rfl, s2.seq hS, fun p3 hp3 => ?_⟩
    rw [cut_to (by simp)]
    have s3 : Same H2 (upd H2 p3 (.lst ([numS t, numS l, numS s'].map V.str))) := same_new hp3
    have e3 : (upd H2 p3 (.lst ([numS t, numS l, numS s'].map V.str))) p3 = some (.lst ([numS t, numS l, numS s'].map V.str)) := upd_same
    refine ⟨p3, rfl, ⟨_, SqL.of upd_same⟩, ?_⟩
    show CompW _ _ _ _ _ _ (upd H2 p3 (.lst ([numS t, numS l, numS s'].map V.str)))
    generalize upd H2 p3 (.lst ([numS t, numS l, numS s'].map V.str)) = H3 at s3 e3
    have s03 := s2.trans s3
    refine comp_valsS (ys := [t, l, s'].map V.int) (wk_list (K := K) (SqL.of e3)) (small12 (by show 3 ≤ 100; decide)) rfl (fun i x y H4 ex ey s4 Q' q' => ?_) (fun H' D s' hD => ?_)
    · match i, ex, ey with
      | 0, ex, ey => cases ex; cases ey; exact ⟨_, rfl, t, rfl, Nt, q'⟩
      | 1, ex, ey => cases ex; cases ey; exact ⟨_, rfl, l, rfl, Nl, q'⟩
      | 2, ex, ey => cases ex; cases ey; exact ⟨_, rfl, s', rfl, Ns, q'⟩
      | i + 3, ex, _ => simp at ex
    · exact q D _ (same_upd (s03.trans s') (s03.free (s'.free hD))) (s03.free (s'.free hD)) upd_same
theorem sc_read_head : FnScope ["words"] ["words"] (defScope s_read_head) := ⟨rfl, rfl, rfl, by decide +kernel, rfl, by decide +kernel, by decide +kernel⟩
theorem ok_read_head (T : Txt K mg A) (G_read_number : FnOk P w K mg base CX0 1 A.f_read_number A.fd_read_number ["word"] spRdN) : FnOk P w K mg base CX0 2 A.f_read_head A.fd_read_head ["words"] (spRdH K) := by
  refine T.F_read_head.ok sc_read_head (fun vs H Q E h => ?_) (fun cdv A' outer s H vs Q E hr h => ?_)
  · obtain ⟨a, w', rfl, _⟩ := h
    rfl
  · obtain ⟨a, w', rfl, hS, N, q⟩ := h
    refine ⟨_, (pss_cons (ps_if (PW.pt (pw_or (pt_cmpR op_ne (pe_callB (call_lenK (K := K) rfl) (by rfl) T.n_len PySem.boot_len (pa_cons (pv 0) pa_nil)) pe_int (nomark _)) (pw_or1 (pt_cmpR op_ne (pe_ix (ix_listK (K := K) rfl) (pv 0) pe_int (fun _ _ => rfl)) (pe_glob (v := .str "board") (by rfl) T.g_HEAD ⟨_, rfl⟩) (nomark _)))))
        (pss_one ps_never)
        pss_nil)
      (pss_one (ps_ret (pe_call G_read_number (hr.mono (by decide)) (by rfl) T.m_read_number T.k_read_number T.b_read_number .nil pass0 (pa_cons (pe_ix (ix_listK (K := K) rfl) (pv 0) pe_int (fun _ _ => rfl)) pa_nil))))), ?_⟩
    refine ⟨_, rfl, _, _, rfl, .inl hS, rfl, _, rfl, ?_⟩
    refine iteF ?_
    refine ⟨_, rfl, _, _, _, _, rfl, rfl, hS, at_list (n := 0) rfl rfl, rfl, _, rfl, ?_⟩
    refine iteF ?_
    exact ⟨_, rfl, _, _, _, _, rfl, rfl, hS, at_list (n := 1) rfl rfl, w', rfl, N, q⟩
theorem sc_told : FnScope ["rows", "numbers", "board", "at", "of_site"] ["rows", "numbers"] (defScope s_told) := ⟨rfl, rfl, rfl, by decide +kernel, rfl, by decide +kernel, by decide +kernel⟩
theorem ok_told (T : Txt K mg A) (G_i_Board : FnOk P w K mg base CX0 3 A.f_Binit A.fd_Binit ["self", "rows"] (spInit A.C)) (G_turn_to : FnOk P w K mg base (CX1 P w) 2 A.f_Bturn_to A.fd_Bturn_to ["self", "at", "place"] (spTurn A.C A.c_NoSite A.c_NoPlace)) (G_load : FnOk P w K mg base (CX1 P w) 2 A.f_Bload A.fd_Bload ["self", "at", "many"] (spLoad A.C A.c_NoSite A.c_TooMany)) : FnOk P w K mg base CX0 5 A.f_told A.fd_told ["rows", "numbers"] (spTldB A.C) := by
  refine T.F_told.ok sc_told (fun vs H Q E h => ?_) (fun cdv A' outer s H vs Q E hr h => ?_)
  · obtain ⟨R, N, as, ns, b, rfl, _⟩ := h
    rfl
  · obtain ⟨R, N, as, ns, b, rfl, M, MN, BN, tk, q⟩ := h
    refine ⟨_, (pss_cons (ps_set (i := 2) sc_told.nd rfl (Or.inl rfl) (pe_make T.mk_Board G_i_Board (hr.mono (by decide)) (by rfl) T.m_Board T.bi_Board .nil pass0 (pa_cons (pv 0) pa_nil)))
      (pss_cons (ps_for PassesOwn.never rfl (pi_enum (K := K) rfl (by rfl) T.n_enumerate (pa_cons (pv 1) pa_nil)) (pg_tup rfl (pgs_cons (pg_name (i := 3) sc_told.nd rfl (Or.inl rfl)) (pgs_cons (pg_name (i := 4) sc_told.nd rfl (Or.inl rfl)) pgs_nil)))
        (pss_cons (ps_expr (pe_meth (pv 2) T.cl_Board T.mt_turn_to G_turn_to (hr.mono (by decide)) T.bm_turn_to .nil passE0 (pa_cons (pv 3) (pa_cons (pe_ix (ix_listK (K := K) rfl) (pv 4) pe_int (fun _ _ => rfl)) pa_nil))))
        (pss_cons (ps_expr (pe_meth (pv 2) T.cl_Board T.mt_load G_load (hr.mono (by decide)) T.bm_load .nil passE0 (pa_cons (pv 3) (pa_cons (pe_ix (ix_listK (K := K) rfl) (pv 4) pe_int (fun _ _ => rfl)) pa_nil))))
        (pss_one (ps_asg (pe_ix (ix_listK (K := K) rfl) (pv 4) pe_int (fun _ _ => rfl)) (pg_sub (pe_fldK (K := K) rfl (pv 2) rfl) (pv 3) set_list))))))
      (pss_one (ps_ret (pv 2))))), ?_⟩
    have O := BN.O
    have W := O.W
    obtain ⟨w1, w12, wr⟩ := id W
    have hnl : (numsB b).length = b.rows.length := by unfold numsB; simp
    refine ⟨_, rfl, ?_⟩
    intro p dx hp hdx hne
    refine ⟨p, dx, R, as, b.rows, rfl, upd_same, M.same (same_upd (same_new hdx) hp), W, fun aR asB aT aL aS H4 B kp frB => ⟨rfl, ?_⟩⟩
    have s4 : Same H H4 := made_same hp hdx kp
    have fr4 : ∀ c ∈ p :: aT :: aL :: aS :: aR :: asB, H c = none := fun c hc => by
      rcases List.mem_cons.mp hc with z | z
      · rw [z]; exact hp
      · exact made_none (frB c z)
    refine ⟨_, rfl, N, _, rfl, (MN.same s4).sq, ?_⟩
    refine for_enumN (fun i σ H2 => ∃ x3 x4 : Option V, σ = [some (.ref R), some (.ref N), some (.ref p), x3, x4] ∧ BoardAt A.C H2 p dx aR asB aT aL aS ⟨b.rows, part b.turns b.rows.length i, part b.loads b.rows.length i, part b.steps b.rows.length i, 0⟩ ∧ Same H H2) ⟨none, none, rfl, ?_, s4⟩ (fun i σ H2 _ ⟨_, _, _, _, s⟩ => (MN.same s).sq) ?_ ?_
    · rw [part_zero, part_zero, part_zero]
      exact B
    · rintro i x σ H2 c hx ⟨x3, x4, rfl, B2, s5⟩ hc D2 hD2
      obtain ⟨d, hi', rfl, ed, hd, _⟩ := MN.refs hx
      have hi : i < b.rows.length := by rw [← hnl]; exact hi'
      have en : (numsB b)[i] = [b.turns.getD i 0, b.loads.getD i 0, b.steps.getD i 0] := by simp [numsB]
      rw [en] at hd
      have s6 : Same H (upd H2 c (.tup [.int (i : Int), .ref d])) := same_upd s5 (s5.free hc)
      have B6 := B2.same (same_new hc (o := .tup [.int (i : Int), .ref d]))
      refine ⟨c, _, rfl, SqT.of upd_same, rfl, _, _, rfl, _, _, rfl, rfl, ?_⟩
      generalize upd H2 c (.tup [.int (i : Int), .ref d]) = H6 at s6 B6
      have tl := O.T.1
      have ll := O.L
      have sl := O.S
      have tvi := O.T.2 i hi
      have hr8 := row_len W hi
      refine ⟨_, rfl, p, dx, _, rfl, B6.ob, (by rfl), _, rfl, _, rfl, _, _, _, _, rfl, rfl, SqL.of (s6 _ _ hd), at_list (n := 0) rfl rfl, p, dx, aR, asB, aT, aL, aS, _, (i : Int), b.turns.getD i 0, rfl, B6, (by show (part b.turns b.rows.length i).length = b.rows.length; exact part_len tl (by (first | lia | omega))), by (first | lia | omega), by (first | lia | omega), ?_⟩
      rw [Int.toNat_natCast]
      refine ⟨by (first | lia | omega), by (first | lia | omega), fun z => absurd ⟨by (first | lia | omega), by show _ < (b.rows.length : Int); (first | lia | omega)⟩ z, fun _ z => absurd tvi z, fun _ _ => ?_⟩
      show _
      have B7 := B6.setT ((part b.turns b.rows.length i).set i (b.turns.getD i 0))
      rw [part_set tl hi] at B7
      dsimp only
      rw [part_set tl hi]
      have s7 : Same H (upd H6 aT (.lst ((part b.turns b.rows.length (i + 1)).map V.int))) := same_upd s6 (fr4 aT (by simp))
      generalize upd H6 aT (.lst ((part b.turns b.rows.length (i + 1)).map V.int)) = H7 at s7 B7
      refine ⟨_, rfl, p, dx, _, rfl, B7.ob, (by rfl), _, rfl, _, rfl, _, _, _, _, rfl, rfl, SqL.of (s7 _ _ hd), at_list (n := 1) rfl rfl, p, dx, aR, asB, aT, aL, aS, _, (i : Int), b.loads.getD i 0, rfl, B7, (by show (part b.loads b.rows.length i).length = b.rows.length; exact part_len ll (by (first | lia | omega))), by (first | lia | omega), by (first | lia | omega), fun z => absurd ⟨by (first | lia | omega), by show _ < (b.rows.length : Int); (first | lia | omega)⟩ z, fun _ z => ?_, fun _ _ => ?_⟩
      · exfalso
        have z' : 400 < (part b.loads b.rows.length i).sum + b.loads.getD i 0 := z
        rw [part_sum, ← take_sum_succ (by (first | lia | omega))] at z'
        have := take_sum_le O.P (i + 1)
        have := BN.m
        (first | lia | omega)
      rw [Int.toNat_natCast]
      dsimp only
      rw [part_get ll hi, Int.zero_add (b.loads.getD i 0), part_set ll hi]
      have B8 := B7.setL (part b.loads b.rows.length (i + 1))
      have s8 : Same H (upd H7 aL (.lst ((part b.loads b.rows.length (i + 1)).map V.int))) := same_upd s7 (fr4 aL (by simp))
      generalize upd H7 aL (.lst ((part b.loads b.rows.length (i + 1)).map V.int)) = H8 at s8 B8
      have hsl : (part b.steps b.rows.length i).length = b.rows.length := part_len sl (by (first | lia | omega))
      refine ⟨_, rfl, _, _, _, _, rfl, rfl, SqL.of (s8 _ _ hd), at_list (n := 2) rfl rfl, _, rfl, p, A.C, dx, _, _, rfl, B8.ob, T.cl_Board, T.na_steps, bf_steps _ _ _ _ _, _, rfl, aS, _, _, _, rfl, rfl, B8.hS, ixN_in (by (first | lia | omega)) (by rw [List.length_map, hsl]; (first | lia | omega)), ?_⟩
      rw [map_set_int, Int.toNat_natCast]
      dsimp only
      rw [part_set sl hi]
      refine hD2 _ _ ⟨_, _, rfl, B8.setS _, same_upd s8 (fr4 aS (by simp))⟩
    · rintro σ H2 ⟨x3, x4, rfl, B2, s5⟩
      have ek : (ns.map V.ref).length = b.rows.length := by rw [List.length_map, MN.len, hnl]
      rw [ek, part_all O.T.1, part_all O.L, part_all O.S] at B2
      refine ⟨_, rfl, q p dx aR asB aT aL aS H2 ?_ s5 fr4⟩
      have eb : b = ⟨b.rows, b.turns, b.loads, b.steps, 0⟩ := by rw [← tk]
      rw [eb]
      exact B2
theorem sc_read : FnScope ["text", "lines", "taken", "numbers", "rows", "board", "refusal"] ["text"] (defScope s_read) := ⟨rfl, rfl, rfl, by decide +kernel, rfl, by decide +kernel, by decide +kernel⟩
theorem ok_read (T : Txt K mg A) (G_read_head : FnOk P w K mg base CX0 2 A.f_read_head A.fd_read_head ["words"] (spRdH K)) (G_read_numbers : FnOk P w K mg base CX0 2 A.f_read_numbers A.fd_read_numbers ["words"] (spRdS K)) (G_read_row : FnOk P w K mg base CX0 3 A.f_read_row A.fd_read_row ["words"] (spRdR K)) (G_told : FnOk P w K mg base (CX1 P w) 5 A.f_told A.fd_told ["rows", "numbers"] (spTldB A.C)) : FnOk P w K mg base CX0 6 A.f_read A.fd_read ["text"] (spRead A.C) := by
  refine T.F_read.ok sc_read (fun vs H Q E h => ?_) (fun cdv A' outer s H vs Q E hr h => ?_)
  · obtain ⟨b, rfl, _⟩ := h
    rfl
  · obtain ⟨b, rfl, BN, q⟩ := h
    refine ⟨_, (pss_cons (ps_setComp (i := 1) sc_read.nd rfl rfl (CompSc.of (N' := ["line"]) (ix := [none]) rfl (by kernel_rfl)) rfl rfl rfl rfl (pi_listK (K := K) rfl (pe_bm PySem.F.plainAttrs_str PySem.F.slot_str_split PySem.F.type_str_split mt_split (pv 0) (pa_cons pe_str pa_nil))) (by exact fun _ _ _ _ _ => pf_nil) (by exact fun _ _ _ _ _ => (pe_bmC (K := K) rfl PySem.F.plainAttrs_str PySem.F.slot_str_split PySem.F.type_str_split mt_split (pv 0) (pa_cons pe_str pa_nil))))
      (pss_cons (ps_set (i := 2) sc_read.nd rfl (Or.inl rfl) (pe_call G_read_head (hr.mono (by decide)) (by rfl) T.m_read_head T.k_read_head T.b_read_head .nil pass0 (pa_cons (pe_ix (ix_listK (K := K) rfl) (pv 1) pe_int (fun _ _ => rfl)) pa_nil)))
      (pss_cons (ps_setComp (i := 3) sc_read.nd rfl rfl (CompSc.of (N' := ["words"]) (ix := [none]) rfl (by kernel_rfl)) rfl rfl rfl rfl (pi_listK (K := K) rfl (pe_slice (sl_listK (K := K) rfl) (pv 1) (po_some pe_int) po_none)) (by exact fun _ _ _ _ _ => pf_nil) (by exact fun _ _ _ _ _ => (pe_call G_read_numbers (hr.mono (by decide)) (by rfl) T.m_read_numbers T.k_read_numbers T.b_read_numbers .nil pass0 (pa_cons (pv 0) pa_nil))))
      (pss_cons (ps_setComp (i := 4) sc_read.nd rfl rfl (CompSc.of (N' := ["words"]) (ix := [none]) rfl (by kernel_rfl)) rfl rfl rfl rfl (pi_listK (K := K) rfl (pe_slice (sl_listK (K := K) rfl) (pv 1) (po_some pe_int) po_none)) (by exact fun _ _ _ _ _ => pf_nil) (by exact fun _ _ _ _ _ => (pe_call G_read_row (hr.mono (by decide)) (by rfl) T.m_read_row T.k_read_row T.b_read_row .nil pass0 (pa_cons (pv 0) pa_nil))))
      (pss_cons (ps_tryA (i := 5) rfl rfl sc_read.nd rfl (Or.inl rfl) (px_call G_told (hr.mono (by decide)) (by rfl) T.m_told T.k_told T.b_told (pa_cons (pv 4) (pa_cons (pv 3) pa_nil)))
        (ph_as (i := 6) sc_read.nd rfl rfl (.inl rfl) (by rfl) T.m_BoardError T.kb_BoardError (by exact fun _ => (pss_one ps_never)) ph_nil))
      (pss_cons (ps_fldK (K := K) rfl (pv 5) (pv 2) rfl)
      (pss_one (ps_ret (pv 5))))))))), ?_⟩
    have O := BN.O
    have w12 := O.W.2.1
    have lt : (textS b).length ≤ 6000 := by rw [← Jn_end]; exact Jn_len BN.sm (Nat.le_refl _)
    have lz : (textS b).length + 2 ≤ sizeLine := size_of (by (first | lia | omega))
    -- lines
    refine ⟨_, rfl, rfl, textS b, 10, rfl, congrArg (fun x => [V.str x]) nl_is, lz, fun l0 hl0 => ?_⟩
    rw [text_split BN]
    have hll : (linesS b).length = b.rows.length + 1 := by unfold linesS; rw [List.length_cons, List.length_map, List.length_range]
    have hwl : (wordsB b).length = b.rows.length + 1 := by unfold wordsB; rw [List.length_cons, List.length_map, List.length_range]
    have s0 : Same H (upd H l0 (.lst ((linesS b).map V.str))) := same_new hl0
    have e0 : (upd H l0 (.lst ((linesS b).map V.str))) l0 = some (.lst ((linesS b).map V.str)) := upd_same
    refine ⟨l0, rfl, ⟨_, SqL.of upd_same⟩, ?_⟩
    show CompW _ _ _ _ _ _ (upd H l0 (.lst ((linesS b).map V.str)))
    generalize upd H l0 (.lst ((linesS b).map V.str)) = H0 at s0 e0
    refine comp_news (ls := (wordsB b).map fun ws => ws.map V.str) (wk_list (K := K) (SqL.of e0)) (by rw [List.length_map, hll]; exact small12 (by (first | lia | omega))) (by rw [List.length_map, List.length_map, hll, hwl]) (fun i x l H3 ex el s3 Q' q' => ?_) (fun as H1 s1 hlen nd fr hrow D hD => ?_)
    · rw [List.getElem?_map] at ex el
      cases er : (linesS b)[i]? with
      | none => rw [er] at ex; cases ex
      | some z =>
        rw [er] at ex
        cases ex
        have ew : (wordsB b)[i]? = some (Txt.split z ⟨#[32]⟩) := by
          rw [← words_split BN, List.getElem?_map, er]
          rfl
        rw [ew] at el
        cases el
        have lz : z.length + 2 ≤ sizeLine := size_of (by have := BN.sm.lines z (List.mem_of_getElem? er); (first | lia | omega))
        exact ⟨_, rfl, rfl, z, 32, rfl, congrArg (fun x => [V.str x]) sp_is, lz, q'⟩
    rw [List.length_map] at hlen
    have hrow' : ∀ (i : Nat) a ws, as[i]? = some a → (wordsB b)[i]? = some ws → H1 a = some (.lst (ws.map V.str)) := fun i a ws ea ew => hrow i a _ ea (by rw [List.getElem?_map, ew]; rfl)
    obtain ⟨a0, as', rfl⟩ : ∃ a0 as', as = a0 :: as' := by
      cases as with
      | nil => rw [hwl] at hlen; cases hlen
      | cons a0 as' => exact ⟨a0, as', rfl⟩
    have hlen' : as'.length = b.rows.length := by rw [hwl, List.length_cons] at hlen; (first | lia | omega)
    have s1' : Same H1 (upd H1 D (.lst ((a0 :: as').map V.ref))) := same_new hD
    have eD : (upd H1 D (.lst ((a0 :: as').map V.ref))) D = some (.lst ((a0 :: as').map V.ref)) := upd_same
    generalize upd H1 D (.lst ((a0 :: as').map V.ref)) = H2 at s1' eD
    have s02 : Same H H2 := (s0.trans s1).trans s1'
    have ea0 : H2 a0 = some (.lst ((headW b.taken).map V.str)) := s1' _ _ (hrow' 0 a0 _ rfl rfl)
    have eas : ∀ (i : Nat) a, as'[i]? = some a → i < b.rows.length → H2 a = some (.lst ((lineW (b.turns.getD i 0) (b.loads.getD i 0) (b.steps.getD i 0) (b.rows.getD i [])).map V.str)) := fun i a ea hi => by
      refine s1' _ _ (hrow' (i + 1) a _ (by simpa using ea) ?_)
      unfold wordsB
      rw [List.getElem?_cons_succ, List.getElem?_map, List.getElem?_range hi]
      rfl
    -- taken
    refine ⟨_, rfl, _, _, _, _, rfl, rfl, SqL.of eD, at_list (n := 0) rfl rfl, a0, b.taken, rfl, SqL.of ea0, BN.k, fun H3 s3 => ?_⟩
    -- numbers
    refine ⟨_, rfl, _, rfl, _, _, rfl, SqL.of (s3 _ _ eD), fun p4 hp4 => ?_⟩
    rw [show (1 : Int) = ((1 : Nat) : Int) from rfl, cut_from (by simp)]
    have s4 : Same H3 (upd H3 p4 (.lst (as'.map V.ref))) := same_new hp4
    have e4 : (upd H3 p4 (.lst (as'.map V.ref))) p4 = some (.lst (as'.map V.ref)) := upd_same
    refine ⟨p4, rfl, ⟨_, SqL.of upd_same⟩, ?_⟩
    show CompW _ _ _ _ _ _ (upd H3 p4 (.lst (as'.map V.ref)))
    generalize upd H3 p4 (.lst (as'.map V.ref)) = H4 at s4 e4
    have s24 : Same H2 H4 := s3.trans s4
    have hnl : (numsB b).length = b.rows.length := by unfold numsB; simp
    refine comp_newsS (ls := (numsB b).map fun r => r.map V.int) (wk_list (K := K) (SqL.of e4)) (by rw [List.length_map, hlen']; exact small12 (by (first | lia | omega))) (by rw [List.length_map, List.length_map, hnl, hlen']) (fun i x l H5 ex el s5 Q' q' => ?_) (fun ns H5 s5 hlen5 nd5 fr5 hrow5 N hN => ?_)
    · rw [List.getElem?_map] at ex el
      cases er : as'[i]? with
      | none => rw [er] at ex; cases ex
      | some a =>
        rw [er] at ex
        cases ex
        have hi : i < b.rows.length := by have := (List.getElem?_eq_some_iff.mp er).1; (first | lia | omega)
        have en : (numsB b)[i]? = some [b.turns.getD i 0, b.loads.getD i 0, b.steps.getD i 0] := by
          unfold numsB
          rw [List.getElem?_map, List.getElem?_range hi]
          rfl
        rw [en] at el
        cases el
        exact ⟨_, rfl, a, _, _, _, _, rfl, SqL.of (s5 _ _ (s24 _ _ (eas i a er hi))), BN.t hi, BN.l i, BN.s i, q'⟩
    rw [List.length_map] at hlen5
    have MN := mat_of (H := H4) (R := N) hlen5 nd5 s5 hrow5 hN
    have s6 : Same H2 (upd H5 N (.lst (ns.map V.ref))) := s24.trans (same_upd s5 (s5.free hN))
    generalize upd H5 N (.lst (ns.map V.ref)) = H6 at MN s6
    -- rows
    refine ⟨_, rfl, _, rfl, _, _, rfl, SqL.of (s6 _ _ eD), fun p7 hp7 => ?_⟩
    rw [cut_from (by simp)]
    have s7 : Same H6 (upd H6 p7 (.lst (as'.map V.ref))) := same_new hp7
    have e7 : (upd H6 p7 (.lst (as'.map V.ref))) p7 = some (.lst (as'.map V.ref)) := upd_same
    refine ⟨p7, rfl, ⟨_, SqL.of upd_same⟩, ?_⟩
    show CompW _ _ _ _ _ _ (upd H6 p7 (.lst (as'.map V.ref)))
    generalize upd H6 p7 (.lst (as'.map V.ref)) = H7 at s7 e7
    have s27 : Same H2 H7 := s6.trans s7
    refine comp_newsS (ls := b.rows.map fun r => r.map V.int) (wk_list (K := K) (SqL.of e7)) (by rw [List.length_map, hlen']; exact small12 (by (first | lia | omega))) (by rw [List.length_map, List.length_map, hlen']) (fun i x l H8 ex el s8 Q' q' => ?_) (fun rs H8 s8 hlen8 nd8 fr8 hrow8 R hR => ?_)
    · rw [List.getElem?_map] at ex el
      cases er : as'[i]? with
      | none => rw [er] at ex; cases ex
      | some a =>
        rw [er] at ex
        cases ex
        have hi : i < b.rows.length := by have := (List.getElem?_eq_some_iff.mp er).1; (first | lia | omega)
        have en : b.rows[i]? = some (b.rows.getD i []) := by rw [getD_get hi]; exact List.getElem?_eq_getElem hi
        rw [en] at el
        cases el
        refine ⟨_, rfl, a, _, _, _, _, rfl, SqL.of (s8 _ _ (s27 _ _ (eas i a er hi))), fun e he => ?_, (row_len O.W hi).2, q'⟩
        have h2 := (O.W.2.2 _ (gD_mem hi)).2.2 e he
        by_cases h3 : e = -1
        · exact .inl h3
        · exact .inr (nu_of (by (first | lia | omega)) (by (first | lia | omega)))
    rw [List.length_map] at hlen8
    have MR := mat_of (H := H7) (R := R) hlen8 nd8 s8 hrow8 hR
    have s9 : Same H6 (upd H8 R (.lst (rs.map V.ref))) := s7.trans (same_upd s8 (s8.free hR))
    generalize upd H8 R (.lst (rs.map V.ref)) = H9 at MR s9
    have s09 : Same H H9 := (s02.trans s6).trans s9
    -- the board
    refine ⟨fun _ _ _ => False, ?_, fun _ _ z => z.elim⟩
    refine ⟨_, rfl, _, rfl, R, N, rs, ns, ⟨b.rows, b.turns, b.loads, b.steps, 0⟩, rfl, MR, MN.same s9, ⟨⟨O.W, O.T, O.L, O.S, O.P⟩, nu_of (Int.le_refl 0) (by show (0 : Int) ≤ 1000000; decide), BN.l, BN.s, BN.m⟩, rfl, fun p dx aR asB aT aL aS HA BA sA frA => ?_⟩
    refine ⟨_, rfl, _, rfl, p, A.C, dx, _, rfl, BA.ob, T.cl_Board, T.na_taken, (by show 5 < 1000; decide), ?_⟩
    rw [putF_taken]
    have BB := BA.setP b.taken
    exact ⟨_, rfl, q p dx aR asB aT aL aS _ BB (same_upd (s09.trans sA) (s09.free (frA p List.mem_cons_self))) fun c hc => s09.free (frA c hc)⟩
theorem sc_number_by : FnScope ["script", "k", "cell", "some"] ["script", "k"] (defScope s_number_by) := ⟨rfl, rfl, rfl, by decide +kernel, rfl, by decide +kernel, by decide +kernel⟩
theorem ok_number_by (T : Txt K mg A) (G_drawn : FnOk P w K mg base CX0 1 A.f_drawn A.fd_drawn ["script", "k", "many"] (spDrawn K)) : FnOk P w K mg base CX0 2 A.f_number_by A.fd_number_by ["script", "k"] (spNumBy K) := by
  refine T.F_number_by.ok sc_number_by (fun vs H Q E h => ?_) (fun cdv A' outer s H vs Q E hr h => ?_)
  · obtain ⟨a, ns, k, rfl, _⟩ := h
    rfl
  · obtain ⟨a, ns, k, rfl, hS, h0, h1, q⟩ := h
    refine ⟨_, (pss_cons (ps_set (i := 2) sc_number_by.nd rfl (Or.inl rfl) pe_int)
      (pss_cons (ps_if (pt_cmpR op_gt (pe_callB (call_lenK (K := K) rfl) (by rfl) T.n_len PySem.boot_len (pa_cons (pv 0) pa_nil)) pe_int (nomark _))
        (pss_one (ps_set (i := 2) sc_number_by.nd rfl (Or.inl rfl) (pe_ix (ix_listK (K := K) rfl) (pv 0) (pe_op op_mod (pv 1) (pe_callB (call_lenK (K := K) rfl) (by rfl) T.n_len PySem.boot_len (pa_cons (pv 0) pa_nil))) (fun _ _ => rfl))))
        pss_nil)
      (pss_cons (ps_set (i := 3) sc_number_by.nd rfl (Or.inl rfl) (pe_lst (pa_cons (pe_call G_drawn (hr.mono (by decide)) (by rfl) T.m__law_drawn T.k__law_drawn T.b__law_drawn .nil pass0 (pa_cons (pv 0) (pa_cons (pe_op op_add pe_int (pv 1)) (pa_cons pe_int pa_nil)))) (pa_cons (pe_op op_mod (pe_op op_mul (pv 2) (pe_op op_add (pv 1) pe_int)) (pe_op op_pow pe_int pe_int)) (pa_cons (pe_op op_sub (pe_op op_pow pe_int pe_int) pe_int) (pa_cons pe_int pa_nil))))))
      (pss_one (ps_ret (pe_ix (ix_listK (K := K) rfl) (pv 3) (pe_call G_drawn (hr.mono (by decide)) (by rfl) T.m__law_drawn T.k__law_drawn T.b__law_drawn .nil pass0 (pa_cons (pv 0) (pa_cons (pe_op op_add pe_int (pv 1)) (pa_cons pe_int pa_nil)))) (fun _ _ => rfl))))))), ?_⟩
    have hl : (ns.map V.int).length = ns.length := by simp
    refine asg_lit ?_
    refine seq_mk' (fun σ' H' => ∃ c : Int, σ' = [some (.ref a), some (.int k), some (.int c), none] ∧ H' = H) ?rest (fun D1 rest => ?way)
    case way =>
      refine ⟨_, rfl, _, _, rfl, .inl hS, _, _, rfl, rfl, _, rfl, ?_⟩
      rw [hl]
      refine ite2 (fun hc => ?_) (fun hc => rest _ _ ⟨7, rfl, rfl⟩)
      have hc' : 0 < (ns.length : Int) := by simpa using hc
      exact ⟨_, rfl, _, rfl, _, rfl, _, _, rfl, .inl hS, _, _, rfl, rfl, (by rw [hl]; exact hc'), _, _, _, _, rfl, rfl, hS, at_ints (Int.emod_nonneg _ (by rw [hl]; (first | lia | omega))) (by rw [hl]; exact Int.emod_lt_of_pos _ hc'), rest _ _ ⟨_, rfl, rfl⟩⟩
    rintro σ' H' ⟨c, rfl, rfl⟩
    have d0 := drawn_nn ns (800 + k) (many := 1000) (by decide)
    have d1 := drawn_lt ns (800 + k) (many := 1000) (by decide)
    have f0 := drawn_nn ns (840 + k) (many := 4) (by decide)
    have f1 := drawn_lt ns (840 + k) (many := 4) (by decide)
    refine ⟨_, rfl, _, rfl, _, _, rfl, rfl, a, ns, 800 + k, 1000, rfl, hS, by decide, by (first | lia | omega), by (first | lia | omega), _, rfl, _, rfl, _, _, rfl, rfl, _, _, rfl, rfl, .inr ⟨by (first | lia | omega), by (first | lia | omega)⟩, _, _, rfl, rfl, ⟨by decide, by decide, by decide⟩, _, _, rfl, rfl, (by show (0 : Int) < 10 ^ (20 : Int).toNat; rw [p20]; decide), _, _, rfl, rfl, ⟨by decide, by decide, by decide⟩, _, _, rfl, rfl, small12 (by show 4 ≤ 100; decide), fun l hl' => ?_⟩
    rw [p20]
    dsimp only [gName]
    have s1 : Same H' (upd H' l (.lst ([drawn ns (800 + k) 1000, c * (k + 7) % 100000000000000000000, 100000000000000000000 - 1, 0].map V.int))) := same_new hl'
    have e1 : (upd H' l (.lst ([drawn ns (800 + k) 1000, c * (k + 7) % 100000000000000000000, 100000000000000000000 - 1, 0].map V.int))) l = some (.lst ([drawn ns (800 + k) 1000, c * (k + 7) % 100000000000000000000, 100000000000000000000 - 1, 0].map V.int)) := upd_same
    show tRet _ _ _ (upd H' l (.lst ([drawn ns (800 + k) 1000, c * (k + 7) % 100000000000000000000, 100000000000000000000 - 1, 0].map V.int)))
    generalize upd H' l (.lst ([drawn ns (800 + k) 1000, c * (k + 7) % 100000000000000000000, 100000000000000000000 - 1, 0].map V.int)) = H1 at s1 e1
    refine ⟨_, rfl, _, rfl, _, rfl, _, _, rfl, rfl, a, ns, 840 + k, 4, rfl, s1.seq hS, by decide, by (first | lia | omega), by (first | lia | omega), _, _, _, _, rfl, rfl, SqL.of e1, at_ints f0 f1, q _ _ ?_ s1⟩
    refine getD_all (P := Nu) (fun x hx => ?_) (by show (drawn ns (840 + k) 4).toNat < 4; (first | lia | omega))
    simp only [List.mem_cons, List.not_mem_nil, or_false] at hx
    rcases hx with rfl | rfl | rfl | rfl
    · exact nu_of d0 (by (first | lia | omega))
    · exact ⟨Int.emod_nonneg _ (by decide), Int.emod_lt_of_pos _ (by decide)⟩
    · exact ⟨by decide, by decide⟩
    · exact ⟨by decide, by decide⟩
theorem sc_shown : FnScope ["rows", "turns", "lying", "counts", "shown", "at", "gone", "word"] ["rows", "turns", "lying", "counts"] (defScope s_shown) := ⟨rfl, rfl, rfl, by decide +kernel, rfl, by decide +kernel, by decide +kernel⟩
theorem ok_shown (T : Txt K mg A) : FnOk P w K mg base CX0 2 A.f_shown A.fd_shown ["rows", "turns", "lying", "counts"] (spShw K) := by
  refine T.F_shown.ok sc_shown (fun vs H Q E h => ?_) (fun cdv A' outer s H vs Q E hr h => ?_)
  · obtain ⟨R, as, tA, yA, cA, b, rfl, _⟩ := h
    rfl
  · obtain ⟨R, as, tA, yA, cA, b, rfl, B, S, q⟩ := h
    refine ⟨_, (pss_cons (ps_set (i := 4) sc_shown.nd rfl (Or.inl rfl) (pe_op op_add_str pe_str (pe_callTy call_str_int (by rfl) T.n_str PyProof.Rows.Boot.«str» (pa_cons (pe_ix (ix_listK (K := K) rfl) (pv 2) (pe_un un_neg pe_int) (fun _ _ => rfl)) pa_nil))))
      (pss_cons (ps_for PassesOwn.never rfl (pi_range1 (by rfl) T.n_range (pa_cons (pe_callB (call_lenK (K := K) rfl) (by rfl) T.n_len PySem.boot_len (pa_cons (pv 0) pa_nil)) pa_nil)) (pg_name (i := 5) sc_shown.nd rfl (Or.inl rfl))
        (pss_cons (ps_set (i := 4) sc_shown.nd rfl (Or.inl rfl) (pe_op op_add_str (pe_op op_add_str (pv 4) pe_str) (pe_callTy call_str_int (by rfl) T.n_str PyProof.Rows.Boot.«str» (pa_cons (pe_ix (ix_listK (K := K) rfl) (pv 1) (pv 5) (fun _ _ => rfl)) pa_nil))))
        (pss_cons (ps_set (i := 4) sc_shown.nd rfl (Or.inl rfl) (pe_op op_add_str (pe_op op_add_str (pv 4) pe_str) (pe_callTy call_str_int (by rfl) T.n_str PyProof.Rows.Boot.«str» (pa_cons (pe_ix (ix_listK (K := K) rfl) (pv 2) (pv 5) (fun _ _ => rfl)) pa_nil))))
        (pss_cons (ps_set (i := 4) sc_shown.nd rfl (Or.inl rfl) (pe_op op_add_str (pe_op op_add_str (pe_op op_add_str (pv 4) pe_str) (pe_callTy call_str_int (by rfl) T.n_str PyProof.Rows.Boot.«str» (pa_cons (pe_ix (ix_listK (K := K) rfl) (pv 3) (pv 5) (fun _ _ => rfl)) pa_nil))) pe_str))
        (pss_one (ps_for PassesOwn.never rfl (pi_listK (K := K) rfl (pe_ix (ix_listK (K := K) rfl) (pv 0) (pv 5) (fun _ _ => rfl))) (pg_name (i := 6) sc_shown.nd rfl (Or.inl rfl))
          (pss_cons (ps_set (i := 7) sc_shown.nd rfl (Or.inl rfl) (pe_callTy call_str_int (by rfl) T.n_str PyProof.Rows.Boot.«str» (pa_cons (pv 6) pa_nil)))
          (pss_cons (ps_if (pt_cmpR op_lt (pv 6) pe_int (nomark _))
            (pss_one (ps_set (i := 7) sc_shown.nd rfl (Or.inl rfl) pe_str))
            pss_nil)
          (pss_one (ps_set (i := 4) sc_shown.nd rfl (Or.inl rfl) (pe_op op_add_str (pe_op op_add_str (pv 4) pe_str) (pv 7))))))))))))
      (pss_one (ps_ret (pv 4))))), ?_⟩
    have h12 := S.O.W.2.1
    refine ⟨_, rfl, _, rfl, _, _, _, _, rfl, rfl, SqL.of B.l, at_last_int _ _, _, rfl, S.k.log, _, _, rfl, rfl, ?_, ?_⟩
    · have : (Str.ofString (toString b.taken)).length ≤ 31 := numS_len S.k
      rw [bd_len]
      exact size_of (by (first | lia | omega))
    have hl := B.M.reflen
    have en : (((as.map V.ref).length : Nat) : Int).toNat = b.rows.length := by rw [hl]; simp
    refine ⟨_, rfl, _, _, rfl, .inl B.M.sq, _, rfl, by (first | lia | omega), by (first | lia | omega), ?_⟩
    rw [en, Jn_start]
    refine for_rangeN (fun i σ H2 => ∃ x2 x3 x4 : Option V, σ = [some (.ref R), some (.ref tA), some (.ref yA), some (.ref cA), some (.str (Jn b i)), x2, x3, x4] ∧ H2 = H) ⟨none, none, none, rfl, rfl⟩ ?_ ?_
    · rintro i σ H2 hi ⟨x2, x3, x4, rfl, rfl⟩ DD hDD
      have ez : (0 + (i : Int)).toNat = i := by (first | lia | omega)
      have hT := at_ints (ns := b.turns) (i := 0 + (i : Int)) (by (first | lia | omega)) (by rw [S.O.T.1]; (first | lia | omega))
      have hL := at_app (ls := b.loads) (t := b.taken) (z := 0 + (i : Int)) (by (first | lia | omega)) (by rw [S.O.L]; (first | lia | omega))
      have hS := at_ints (ns := b.steps) (i := 0 + (i : Int)) (by (first | lia | omega)) (by rw [S.O.S]; (first | lia | omega))
      rw [ez] at hT hL hS
      obtain ⟨c, hat, hc, _⟩ := B.M.at (z := 0 + (i : Int)) (by (first | lia | omega)) (by (first | lia | omega))
      rw [ez] at hc
      have hr8 := row_len S.O.W hi
      have lJ := Jn_len S (Nat.le_of_lt hi)
      have lT : (Str.ofString (toString (b.turns.getD i 0))).length ≤ 31 := numS_len (S.t hi)
      have lL : (Str.ofString (toString (b.loads.getD i 0))).length ≤ 31 := numS_len (S.l i)
      have lS : (Str.ofString (toString (b.steps.getD i 0))).length ≤ 31 := numS_len (S.s i)
      refine ⟨_, rfl, _, _, rfl, rfl, size_of (by simp only [Str.length_append, nl_len, sp_len, gt_len]; (first | lia | omega)), _, rfl, _, rfl, _, _, _, _, rfl, rfl, SqL.of B.t, hT, _, rfl, (S.t hi).log, _, _, rfl, rfl, size_of (by simp only [Str.length_append, nl_len, sp_len, gt_len]; (first | lia | omega)), ?_⟩
      refine ⟨_, rfl, _, _, rfl, rfl, size_of (by simp only [Str.length_append, nl_len, sp_len, gt_len]; (first | lia | omega)), _, rfl, _, rfl, _, _, _, _, rfl, rfl, SqL.of B.l, hL, _, rfl, (S.l i).log, _, _, rfl, rfl, size_of (by simp only [Str.length_append, nl_len, sp_len, gt_len]; (first | lia | omega)), ?_⟩
      refine ⟨_, rfl, _, _, rfl, rfl, size_of (by simp only [Str.length_append, nl_len, sp_len, gt_len]; (first | lia | omega)), _, rfl, _, rfl, _, _, _, _, rfl, rfl, SqL.of B.c, hS, _, rfl, (S.s i).log, _, _, rfl, rfl, size_of (by simp only [Str.length_append, nl_len, sp_len, gt_len]; (first | lia | omega)), _, _, rfl, rfl, size_of (by simp only [Str.length_append, nl_len, sp_len, gt_len]; (first | lia | omega)), ?_⟩
      refine ⟨_, rfl, _, rfl, _, _, _, _, rfl, rfl, B.M.sq, hat, c, rfl, ⟨_, SqL.of hc⟩, ?_⟩
      refine for_list (K := K) (a := c) (xs := (b.rows.getD i []).map V.int) (fun m σ H3 => ∃ x3 x4 : Option V, σ = [some (.ref R), some (.ref tA), some (.ref yA), some (.ref cA), some (.str (Jn b i ++ Str.ofString "\n" ++ Ln (b.turns.getD i 0) (b.loads.getD i 0) (b.steps.getD i 0) (b.rows.getD i []) m)), some (.int (0 + (i : Int))), x3, x4] ∧ H3 = H2) ⟨x3, x4, ?_, rfl⟩ (fun m σ H3 _ ⟨_, _, _, e⟩ => by rw [e]; exact SqL.of hc) ?_ ?_
      · rw [Ln_start]
        simp only [Str.append_assoc]
        rfl
      · rintro m x σ H3 hm ⟨x3', x4', rfl, rfl⟩
        rw [List.getElem?_map] at hm
        cases er : (b.rows.getD i [])[m]? with
        | none => rw [er] at hm; cases hm
        | some e =>
          rw [er] at hm
          cases hm
          have hmem := List.mem_of_getElem? er
          have hsm := S.r hi e hmem
          have he1 := (S.O.W.2.2 _ (gD_mem hi)).2.2 e hmem
          have lm := Ln_len (m := m) (S.t hi) (S.l i) (S.s i) (S.r hi) hr8.2
          refine ⟨_, rfl, _, rfl, hsm.log, ?_⟩
          refine ⟨_, rfl, _, _, rfl, rfl, _, rfl, ?_⟩
          refine ite2 (fun h1 => ?_) (fun h1 => ?_)
          · refine ⟨_, rfl, _, _, rfl, rfl, size_of (by simp only [Str.length_append, nl_len, sp_len, gt_len]; (first | lia | omega)), _, rfl, _, _, rfl, rfl, ?_, ?_⟩
            · have : (Str.ofString "pit").length = 3 := by decide +kernel
              exact size_of (by simp only [Str.length_append, nl_len, sp_len]; (first | lia | omega))
            · refine ⟨some (.int e), some (.str (Str.ofString "pit")), ?_, rfl⟩
              rw [Ln_next er, word_lt he1.1, if_pos (by simpa using h1)]
              simp only [Str.append_assoc]
              rfl
          · refine ⟨_, rfl, _, _, rfl, rfl, size_of (by simp only [Str.length_append, nl_len, sp_len, gt_len]; (first | lia | omega)), _, rfl, _, _, rfl, rfl, ?_, ?_⟩
            · have : (Str.ofString (toString e)).length ≤ 31 := numS_len hsm
              exact size_of (by simp only [Str.length_append, nl_len, sp_len]; (first | lia | omega))
            · refine ⟨some (.int e), some (.str (Str.ofString (toString e))), ?_, rfl⟩
              rw [Ln_next er, word_lt he1.1, if_neg (by simpa using h1)]
              simp only [Str.append_assoc]
              rfl
      · rintro σ H3 ⟨x3', x4', rfl, rfl⟩
        refine hDD _ _ ⟨some (.int (0 + (i : Int))), x3', x4', ?_, rfl⟩
        rw [Jn_next hi, List.length_map, Ln_end]
        rfl
    · rintro σ H2 ⟨x2, x3, x4, rfl, rfl⟩
      rw [Jn_end]
      exact ⟨_, rfl, q⟩
theorem sc_way_word : FnScope ["way"] ["way"] (defScope s_way_word) := ⟨rfl, rfl, rfl, by decide +kernel, rfl, by decide +kernel, by decide +kernel⟩
theorem ok_way_word (T : Txt K mg A) : FnOk P w K mg base CX0 1 A.f_way_word A.fd_way_word ["way"] spWay := by
  refine T.F_way_word.ok sc_way_word (fun vs H Q E h => ?_) (fun cdv A' outer s H vs Q E hr h => ?_)
  · obtain ⟨e, rfl, _⟩ := h
    rfl
  · obtain ⟨e, rfl, hs, q⟩ := h
    refine ⟨_, (pss_one (ps_ret (pe_ifExp (pt_cmpR op_eq (pv 0) (pe_glob (v := .int (-1)) (by rfl) T.g_PIT ⟨_, rfl⟩) (nomark _)) (pe_glob (v := .str "pit") (by rfl) T.g_PIT_WORD ⟨_, rfl⟩) (pe_callTy call_str_int (by rfl) T.n_str PyProof.Rows.Boot.«str» (pa_cons (pv 0) pa_nil))))), ?_⟩
    refine ⟨_, rfl, rfl, _, rfl, ?_⟩
    unfold wordS at q
    refine ite2 (fun h1 => ?_) (fun h1 => ?_)
    · rw [if_pos (by simpa using h1)] at q
      exact q
    · rw [if_neg (by simpa using h1)] at q
      exact ⟨_, rfl, e, rfl, hs.log, q⟩
theorem sc_site_line : FnScope ["board", "at", "numbers", "ways"] ["board", "at"] (defScope s_site_line) := ⟨rfl, rfl, rfl, by decide +kernel, rfl, by decide +kernel, by decide +kernel⟩
theorem ok_site_line (T : Txt K mg A) (G_way_word : FnOk P w K mg base CX0 1 A.f_way_word A.fd_way_word ["way"] spWay) : FnOk P w K mg base CX0 2 A.f_site_line A.fd_site_line ["board", "at"] (spSiteL A.C) := by
  refine T.F_site_line.ok sc_site_line (fun vs H Q E h => ?_) (fun cdv A' outer s H vs Q E hr h => ?_)
  · obtain ⟨p, dx, aR, as, aT, aL, aS, b, i, rfl, _⟩ := h
    rfl
  · obtain ⟨p, dx, aR, as, aT, aL, aS, b, i, rfl, B, S, hi, q⟩ := h
    refine ⟨_, (pss_cons (ps_set (i := 2) sc_site_line.nd rfl (Or.inl rfl) (pe_lst (pa_cons (pe_ix (ix_listK (K := K) rfl) (pe_fldK (K := K) rfl (pv 0) rfl) (pv 1) (fun _ _ => rfl)) (pa_cons (pe_ix (ix_listK (K := K) rfl) (pe_fldK (K := K) rfl (pv 0) rfl) (pv 1) (fun _ _ => rfl)) (pa_cons (pe_ix (ix_listK (K := K) rfl) (pe_fldK (K := K) rfl (pv 0) rfl) (pv 1) (fun _ _ => rfl)) pa_nil)))))
      (pss_cons (ps_setComp (i := 3) sc_site_line.nd rfl rfl (CompSc.of (N' := ["way"]) (ix := [none]) rfl (by kernel_rfl)) rfl rfl rfl rfl (pi_listK (K := K) rfl (pe_ix (ix_listK (K := K) rfl) (pe_fldK (K := K) rfl (pv 0) rfl) (pv 1) (fun _ _ => rfl))) (by exact fun _ _ _ _ _ => pf_nil) (by exact fun _ _ _ _ _ => (pe_call G_way_word (hr.mono (by decide)) (by rfl) T.m_way_word T.k_way_word T.b_way_word .nil pass0 (pa_cons (pv 0) pa_nil))))
      (pss_one (ps_ret (pe_bm PySem.F.plainAttrs_str PySem.F.slot_str_join PySem.F.type_str_join (mt_joinK (K := K) rfl) pe_str (pa_cons (pe_op op_cat (pe_op op_cat (pe_comp (CompSc.of (N' := ["number"]) (ix := [none]) rfl (by kernel_rfl)) rfl rfl rfl rfl (pi_listK (K := K) rfl (pv 2)) (by exact fun _ _ _ _ _ => pf_nil) (by exact fun _ _ _ _ _ => (pe_callTy call_str_int (by rfl) T.n_str PyProof.Rows.Boot.«str» (pa_cons (pv 0) pa_nil))) (fun _ => rfl)) (pe_lst (pa_cons (pe_glob (v := .str ">") (by rfl) T.g_MARK ⟨_, rfl⟩) pa_nil))) (pv 3)) pa_nil)))))), ?_⟩
    have hT := at_ints (ns := b.turns) (i := (i : Int)) (by (first | lia | omega)) (by rw [S.O.T.1]; (first | lia | omega))
    have hL := at_ints (ns := b.loads) (i := (i : Int)) (by (first | lia | omega)) (by rw [S.O.L]; (first | lia | omega))
    have hS := at_ints (ns := b.steps) (i := (i : Int)) (by (first | lia | omega)) (by rw [S.O.S]; (first | lia | omega))
    rw [Int.toNat_natCast] at hT hL hS
    refine ⟨_, rfl, p, A.C, dx, _, _, rfl, B.ob, T.cl_Board, T.na_turns, bf_turns _ _ _ _ _, _, rfl, _, _, _, _, rfl, rfl, SqL.of B.hT, hT, _, rfl, p, A.C, dx, _, _, rfl, B.ob, T.cl_Board, T.na_loads, bf_loads _ _ _ _ _, _, rfl, _, _, _, _, rfl, rfl, SqL.of B.hL, hL, _, rfl, p, A.C, dx, _, _, rfl, B.ob, T.cl_Board, T.na_steps, bf_steps _ _ _ _ _, _, rfl, _, _, _, _, rfl, rfl, SqL.of B.hS, hS, small12 (by show 3 ≤ 100; decide), fun nA hnA => ?_⟩
    have s1 : Same H (upd H nA (.lst [V.int (b.turns.getD i 0), V.int (b.loads.getD i 0), V.int (b.steps.getD i 0)])) := same_new hnA
    have eN : (upd H nA (.lst [V.int (b.turns.getD i 0), V.int (b.loads.getD i 0), V.int (b.steps.getD i 0)])) nA = some (.lst ([b.turns.getD i 0, b.loads.getD i 0, b.steps.getD i 0].map V.int)) := upd_same
    generalize upd H nA (.lst [V.int (b.turns.getD i 0), V.int (b.loads.getD i 0), V.int (b.steps.getD i 0)]) = H1 at s1 eN
    have B1 := B.same s1
    obtain ⟨c, hat, hc, _⟩ := B1.mat.at (z := (i : Int)) (by (first | lia | omega)) (by (first | lia | omega))
    rw [Int.toNat_natCast] at hc
    have hr8 := row_len S.O.W hi
    -- ways
    refine ⟨_, rfl, p, A.C, dx, _, _, rfl, B1.ob, T.cl_Board, T.na_rows, bf_rows _ _ _ _ _, _, rfl, _, _, _, _, rfl, rfl, B1.mat.sq, hat, c, rfl, ⟨_, SqL.of hc⟩, ?_⟩
    refine comp_pure (ys := ((b.rows.getD i []).map wordS).map V.str) (wk_list (K := K) (SqL.of hc)) (by rw [List.length_map]; exact small12 (by (first | lia | omega))) (by simp) (fun j x y ex ey Q' q' => ?_) (fun wA hwA => ?_)
    · rw [List.getElem?_map] at ex ey
      rw [List.getElem?_map] at ey
      cases er : (b.rows.getD i [])[j]? with
      | none => rw [er] at ex; cases ex
      | some e =>
        rw [er] at ex ey
        cases ex
        cases ey
        exact ⟨_, rfl, e, rfl, S.r hi e (List.mem_of_getElem? er), q'⟩
    have s2 : Same H1 (upd H1 wA (.lst (((b.rows.getD i []).map wordS).map V.str))) := same_new hwA
    have eW : (upd H1 wA (.lst (((b.rows.getD i []).map wordS).map V.str))) wA = some (.lst (((b.rows.getD i []).map wordS).map V.str)) := upd_same
    generalize upd H1 wA (.lst (((b.rows.getD i []).map wordS).map V.str)) = H2 at s2 eW
    have eN2 := s2 _ _ eN
    -- the join
    refine ⟨rfl, _, rfl, nA, rfl, ⟨_, SqL.of eN2⟩, ?_⟩
    refine comp_pure (ys := [numS (b.turns.getD i 0), numS (b.loads.getD i 0), numS (b.steps.getD i 0)].map V.str) (wk_list (K := K) (SqL.of eN2)) (small12 (by show 3 ≤ 100; decide)) rfl (fun j x y ex ey Q' q' => ?_) (fun sA hsA => ?_)
    · match j, ex, ey with
      | 0, ex, ey => cases ex; cases ey; exact ⟨_, rfl, _, rfl, (S.t hi).log, q'⟩
      | 1, ex, ey => cases ex; cases ey; exact ⟨_, rfl, _, rfl, (S.l i).log, q'⟩
      | 2, ex, ey => cases ex; cases ey; exact ⟨_, rfl, _, rfl, (S.s i).log, q'⟩
      | j + 3, ex, _ => simp at ex
    have s3 : Same H2 (upd H2 sA (.lst ([numS (b.turns.getD i 0), numS (b.loads.getD i 0), numS (b.steps.getD i 0)].map V.str))) := same_new hsA
    have e3 : (upd H2 sA (.lst ([numS (b.turns.getD i 0), numS (b.loads.getD i 0), numS (b.steps.getD i 0)].map V.str))) sA = some (.lst ([numS (b.turns.getD i 0), numS (b.loads.getD i 0), numS (b.steps.getD i 0)].map V.str)) := upd_same
    generalize upd H2 sA (.lst ([numS (b.turns.getD i 0), numS (b.loads.getD i 0), numS (b.steps.getD i 0)].map V.str)) = H3 at s3 e3
    refine ⟨small12 (by show 1 ≤ 100; decide), fun l4 hl4 => ⟨sA, l4, _, _, rfl, rfl, same_new hl4 _ _ e3, upd_same, small12 (by show 3 + 1 ≤ 100; decide), fun l5 hl5 => ?_⟩⟩
    have s5 : Same H3 (upd (upd H3 l4 (.lst [V.str (Str.ofString ">")])) l5 (.lst ([numS (b.turns.getD i 0), numS (b.loads.getD i 0), numS (b.steps.getD i 0)].map V.str ++ [V.str (Str.ofString ">")]))) := same_upd (same_new hl4) ((same_new hl4).free hl5)
    have e5 : (upd (upd H3 l4 (.lst [V.str (Str.ofString ">")])) l5 (.lst ([numS (b.turns.getD i 0), numS (b.loads.getD i 0), numS (b.steps.getD i 0)].map V.str ++ [V.str (Str.ofString ">")]))) l5 = some (.lst ([numS (b.turns.getD i 0), numS (b.loads.getD i 0), numS (b.steps.getD i 0)].map V.str ++ [V.str (Str.ofString ">")])) := upd_same
    refine ⟨_, rfl, l5, wA, _, _, rfl, rfl, e5, s5 _ _ (s3 _ _ eW), small12 (by simp only [List.length_append, List.length_map, List.length_cons, List.length_nil]; (first | lia | omega)), fun l6 hl6 => ?_⟩
    have el : [numS (b.turns.getD i 0), numS (b.loads.getD i 0), numS (b.steps.getD i 0)].map V.str ++ [V.str (Str.ofString ">")] ++ ((b.rows.getD i []).map wordS).map V.str = (lineW (b.turns.getD i 0) (b.loads.getD i 0) (b.steps.getD i 0) (b.rows.getD i [])).map V.str := by
      unfold lineW
      rw [List.map_append, List.map_append]
      rfl
    refine ⟨Str.ofString " ", l6, lineW (b.turns.getD i 0) (b.loads.getD i 0) (b.steps.getD i 0) (b.rows.getD i []), rfl, rfl, by rw [el]; exact SqL.of upd_same, ?_, ?_⟩
    · refine joinOk_of (lineW_len (S.t hi) (S.l i) (S.s i) (S.r hi)) ?_
      have hll : (lineW (b.turns.getD i 0) (b.loads.getD i 0) (b.steps.getD i 0) (b.rows.getD i [])).length ≤ 12 := by
        unfold lineW
        rw [List.length_append, List.length_append, List.length_map]
        show 3 + 1 + _ ≤ 12
        (first | lia | omega)
      rw [sp_len]
      (first | lia | omega)
    · exact q _ (((s1.trans s2).trans s3).trans (same_upd s5 (s5.free hl6)))
theorem sc_written : FnScope ["board", "lines", "at"] ["board"] (defScope s_written) := ⟨rfl, rfl, rfl, by decide +kernel, rfl, by decide +kernel, by decide +kernel⟩
theorem ok_written (T : Txt K mg A) (G_site_line : FnOk P w K mg base CX0 2 A.f_site_line A.fd_site_line ["board", "at"] (spSiteL A.C)) : FnOk P w K mg base CX0 3 A.f_written A.fd_written ["board"] (spWrit A.C) := by
  refine T.F_written.ok sc_written (fun vs H Q E h => ?_) (fun cdv A' outer s H vs Q E hr h => ?_)
  · obtain ⟨p, dx, aR, as, aT, aL, aS, b, rfl, _⟩ := h
    rfl
  · obtain ⟨p, dx, aR, as, aT, aL, aS, b, rfl, B, S, q⟩ := h
    refine ⟨_, (pss_cons (ps_set (i := 1) sc_written.nd rfl (Or.inl rfl) (pe_lst (pa_cons (pe_op op_add_str (pe_op op_add_str (pe_glob (v := .str "board") (by rfl) T.g_HEAD ⟨_, rfl⟩) pe_str) (pe_callTy call_str_int (by rfl) T.n_str PyProof.Rows.Boot.«str» (pa_cons (pe_fldK (K := K) rfl (pv 0) rfl) pa_nil))) pa_nil)))
      (pss_cons (ps_for PassesOwn.never rfl (pi_range1 (by rfl) T.n_range (pa_cons (pe_callB (call_lenK (K := K) rfl) (by rfl) T.n_len PySem.boot_len (pa_cons (pe_fldK (K := K) rfl (pv 0) rfl) pa_nil)) pa_nil)) (pg_name (i := 2) sc_written.nd rfl (Or.inl rfl))
        (pss_one (ps_expr (pe_bm PySem.F.plainAttrs_list PySem.F.slot_list_append PySem.F.type_list_append mt_append (pv 1) (pa_cons (pe_call G_site_line (hr.mono (by decide)) (by rfl) T.m_site_line T.k_site_line T.b_site_line .nil pass0 (pa_cons (pv 0) (pa_cons (pv 2) pa_nil))) pa_nil)))))
      (pss_one (ps_ret (pe_bm PySem.F.plainAttrs_str PySem.F.slot_str_join PySem.F.type_str_join (mt_joinK (K := K) rfl) pe_str (pa_cons (pv 1) pa_nil)))))), ?_⟩
    have h12 := S.O.W.2.1
    have hb5 : (Str.ofString "board").length + (Str.ofString " ").length ≤ sizeLine := by rw [← Str.length_append]; decide +kernel
    refine ⟨_, _, rfl, rfl, hb5, _, rfl, p, A.C, dx, _, _, rfl, B.ob, T.cl_Board, T.na_taken, bf_taken _ _ _ _ _, _, rfl, S.k.log, _, _, rfl, rfl, ?_, small12 (by show 1 ≤ 100; decide), fun lA hlA => ?_⟩
    · have := head_len S.k
      unfold headS at this
      rw [Str.length_append] at this
      exact size_of (Nat.le_trans this (by decide))
    have s1 : Same H (upd H lA (.lst [V.str (headS b.taken)])) := same_new hlA
    have eL : (upd H lA (.lst [V.str (headS b.taken)])) lA = some (.lst (((linesS b).take 1).map V.str)) := by rw [upd_same]; rfl
    show tSeq _ _ _ _ (upd H lA (.lst [V.str (headS b.taken)]))
    generalize upd H lA (.lst [V.str (headS b.taken)]) = H1 at s1 eL
    have B1 := B.same s1
    have hl := B1.mat.reflen
    have en : (((as.map V.ref).length : Nat) : Int).toNat = b.rows.length := by rw [hl]; simp
    refine ⟨_, rfl, p, A.C, dx, _, _, rfl, B1.ob, T.cl_Board, T.na_rows, bf_rows _ _ _ _ _, _, _, rfl, .inl B1.mat.sq, _, rfl, by (first | lia | omega), by (first | lia | omega), ?_⟩
    rw [en]
    refine for_rangeN (fun i σ H2 => ∃ x2 : Option V, σ = [some (.ref p), some (.ref lA), x2] ∧ Same H H2 ∧ H2 lA = some (.lst (((linesS b).take (i + 1)).map V.str))) ⟨none, rfl, s1, eL⟩ ?_ ?_
    · rintro i σ H2 hi ⟨x2, rfl, s2, e2⟩ DD hDD
      refine ⟨_, rfl, .inl ⟨rfl, _, SqL.of e2⟩, _, rfl, _, rfl, p, dx, aR, as, aT, aL, aS, b, i, (by rw [Int.zero_add]; rfl), B.same s2, S, hi, fun H3 s3 => ?_⟩
      have e3 := s3 _ _ e2
      have hll : (((linesS b).take (i + 1)).map V.str).length ≤ 100 := by
        rw [List.length_map, List.length_take]
        unfold linesS
        rw [List.length_cons, List.length_map, List.length_range]
        (first | lia | omega)
      refine ⟨lA, _, _, rfl, rfl, e3, small1000 (by (first | lia | omega)), ?_⟩
      refine hDD _ _ ⟨_, rfl, same_upd (s2.trans s3) hlA, ?_⟩
      rw [upd_same, lines_get hi, List.map_append]
      rfl
    · rintro σ H2 ⟨x2, rfl, s2, e2⟩
      have hll : (linesS b).length = b.rows.length + 1 := by unfold linesS; rw [List.length_cons, List.length_map, List.length_range]
      rw [List.take_of_length_le (by rw [hll]; exact Nat.le_refl _)] at e2
      refine ⟨rfl, _, rfl, Str.ofString "\n", lA, linesS b, rfl, rfl, SqL.of e2, joinOk_of S.lines (by rw [hll, nl_len]; (first | lia | omega)), ?_⟩
      exact q _ s2
theorem sc_drawn : FnScope ["script", "k", "many", "cell", "mixed"] ["script", "k", "many"] (defScope s_drawn) := ⟨rfl, rfl, rfl, by decide +kernel, rfl, by decide +kernel, by decide +kernel⟩
theorem ok_drawn (T : Txt K mg A) : FnOk P w K mg base CX0 1 A.f_drawn A.fd_drawn ["script", "k", "many"] (spDrawn K) := by
  refine T.F_drawn.ok sc_drawn (fun vs H Q E h => ?_) (fun cdv A' outer s H vs Q E hr h => ?_)
  · obtain ⟨a, ns, k, many, rfl, _⟩ := h
    rfl
  · obtain ⟨a, ns, k, many, rfl, hS, hm, k1, k2, q⟩ := h
    refine ⟨_, (pss_cons (ps_set (i := 3) sc_drawn.nd rfl (Or.inl rfl) pe_int)
      (pss_cons (ps_if (pt_cmpR op_gt (pe_callB (call_lenK (K := K) rfl) (by rfl) T.n_len PySem.boot_len (pa_cons (pv 0) pa_nil)) pe_int (nomark _))
        (pss_one (ps_set (i := 3) sc_drawn.nd rfl (Or.inl rfl) (pe_ix (ix_listK (K := K) rfl) (pv 0) (pe_op op_mod (pv 1) (pe_callB (call_lenK (K := K) rfl) (by rfl) T.n_len PySem.boot_len (pa_cons (pv 0) pa_nil))) (fun _ _ => rfl))))
        pss_nil)
      (pss_cons (ps_set (i := 4) sc_drawn.nd rfl (Or.inl rfl) (pe_op op_add (pe_op op_add (pe_op op_mul (pv 3) (pe_op op_add pe_int (pe_op op_mul pe_int (pe_op op_mod (pv 1) pe_int)))) (pe_op op_mul (pe_op op_mul (pe_op op_add (pv 1) pe_int) (pe_op op_add (pv 1) pe_int)) pe_int)) (pe_callB (call_lenK (K := K) rfl) (by rfl) T.n_len PySem.boot_len (pa_cons (pv 0) pa_nil))))
      (pss_one (ps_ret (pe_op op_mod (pe_op op_fdiv (pe_op op_mod (pv 4) pe_int) pe_int) (pv 2))))))), ?_⟩
    have hl : (ns.map V.int).length = ns.length := by simp
    refine ⟨_, rfl, _, _, rfl, .inl hS, _, _, rfl, rfl, _, rfl, ?_⟩
    rw [hl]
    refine ite2 (fun hc => ?_) (fun hc => ?_)
    · have hc' : 0 < (ns.length : Int) := by simpa using hc
      refine ⟨_, rfl, _, rfl, _, rfl, _, _, rfl, .inl hS, _, _, rfl, rfl, (by rw [hl]; exact hc'), _, _, _, _, rfl, rfl, hS, at_ints (Int.emod_nonneg _ (by rw [hl]; (first | lia | omega))) (by rw [hl]; exact Int.emod_lt_of_pos _ hc'), ?_⟩
      refine ⟨_, rfl, _, rfl, _, _, rfl, rfl, (by show (0 : Int) < 97; decide), _, _, rfl, rfl, .inl ⟨by decide, by decide⟩, _, _, rfl, rfl, _, _, rfl, rfl, .inr ⟨by (first | lia | omega), by (first | lia | omega)⟩,
        _, rfl, _, _, rfl, rfl, _, rfl, _, _, rfl, rfl, _, _, rfl, rfl, .inl ⟨by (first | lia | omega), by (first | lia | omega)⟩, _, _, rfl, rfl, .inr ⟨by decide, by decide⟩, _, _, rfl, rfl, _, rfl, _, _, rfl, .inl hS, _, _, rfl, rfl, ?_⟩
      refine ⟨_, rfl, _, _, rfl, rfl, (by show (0 : Int) < 2147483647; decide), _, _, rfl, rfl, ⟨by decide, by decide⟩, _, rfl, _, _, rfl, rfl, hm, ?_⟩
      have e : drawn ns k many = (ns.getD (k % (ns.length : Int)).toNat 0 * (48271 + 9973 * (k % 97)) + (k + 1) * (k + 3) * 16807 + (ns.length : Int)) % 2147483647 / 16 % many := by
        unfold drawn
        rw [if_pos hc']
      rw [e] at q
      rw [hl]
      exact q
    · have hc' : ¬ 0 < (ns.length : Int) := by simpa using hc
      refine ⟨_, rfl, _, rfl, _, _, rfl, rfl, (by show (0 : Int) < 97; decide), _, _, rfl, rfl, .inl ⟨by decide, by decide⟩, _, _, rfl, rfl, _, _, rfl, rfl, .inr ⟨by (first | lia | omega), by (first | lia | omega)⟩,
        _, rfl, _, _, rfl, rfl, _, rfl, _, _, rfl, rfl, _, _, rfl, rfl, .inl ⟨by (first | lia | omega), by (first | lia | omega)⟩, _, _, rfl, rfl, .inr ⟨by decide, by decide⟩, _, _, rfl, rfl, _, rfl, _, _, rfl, .inl hS, _, _, rfl, rfl, ?_⟩
      refine ⟨_, rfl, _, _, rfl, rfl, (by show (0 : Int) < 2147483647; decide), _, _, rfl, rfl, ⟨by decide, by decide⟩, _, rfl, _, _, rfl, rfl, hm, ?_⟩
      have e : drawn ns k many = (7 * (48271 + 9973 * (k % 97)) + (k + 1) * (k + 3) * 16807 + (ns.length : Int)) % 2147483647 / 16 % many := by
        unfold drawn
        rw [if_neg hc']
      rw [e] at q
      rw [hl]
      exact q
theorem sc_other : FnScope ["gone", "many"] ["gone", "many"] (defScope s_other) := ⟨rfl, rfl, rfl, by decide +kernel, rfl, by decide +kernel, by decide +kernel⟩
theorem ok_other (T : Txt K mg A) : FnOk P w K mg base CX0 1 A.f_other A.fd_other ["gone", "many"] spOther := by
  refine T.F_other.ok sc_other (fun vs H Q E h => ?_) (fun cdv A' outer s H vs Q E hr h => ?_)
  · obtain ⟨g, many, rfl, _⟩ := h
    rfl
  · obtain ⟨g, many, rfl, q⟩ := h
    refine ⟨_, (pss_cons (ps_if (pt_cmpR op_lt (pv 0) pe_int (nomark _))
        (pss_one (ps_ret (pv 0)))
        pss_nil)
      (pss_one (ps_ret (pe_op op_sub (pe_op op_sub (pv 1) pe_int) (pv 0))))), ?_⟩
    refine ⟨_, rfl, _, _, rfl, rfl, _, rfl, ?_⟩
    unfold oth at q
    refine ite2 (fun hc => ?_) (fun hc => ?_)
    · have hc' : g < 0 := by simpa using hc
      rw [if_pos hc'] at q
      exact ⟨_, rfl, q⟩
    · have hc' : ¬ g < 0 := by simpa using hc
      rw [if_neg hc'] at q
      exact ⟨_, rfl, _, _, rfl, rfl, _, rfl, _, _, rfl, rfl, q⟩
theorem sc_rows_by : FnScope ["script", "big", "many", "rows", "k", "at", "size", "top", "row", "j"] ["script"] (defScope s_rows_by) := ⟨rfl, rfl, rfl, by decide +kernel, rfl, by decide +kernel, by decide +kernel⟩
theorem ok_rows_by (T : Txt K mg A) (G_drawn : FnOk P w K mg base CX0 1 A.f_drawn A.fd_drawn ["script", "k", "many"] (spDrawn K)) (G_other : FnOk P w K mg base CX0 1 A.f_other A.fd_other ["gone", "many"] spOther) : FnOk P w K mg base CX0 3 A.f_rows_by A.fd_rows_by ["script"] (spRowsT K) := by
  refine T.F_rows_by.ok sc_rows_by (fun vs H Q E h => ?_) (fun cdv A' outer s H vs Q E hr h => ?_)
  · obtain ⟨a, ns, rfl, _⟩ := h
    rfl
  · obtain ⟨a, ns, rfl, hS, q⟩ := h
    refine ⟨_, (pss_cons (ps_set (i := 1) sc_rows_by.nd rfl (Or.inl rfl) (pe_cmpR op_eq (pe_call G_drawn (hr.mono (by decide)) (by rfl) T.m__law_drawn T.k__law_drawn T.b__law_drawn .nil pass0 (pa_cons (pv 0) (pa_cons pe_int (pa_cons pe_int pa_nil)))) pe_int (nomark _)))
      (pss_cons (ps_set (i := 2) sc_rows_by.nd rfl (Or.inr rfl) (pe_op op_add pe_int (pe_call G_drawn (hr.mono (by decide)) (by rfl) T.m__law_drawn T.k__law_drawn T.b__law_drawn .nil pass0 (pa_cons (pv 0) (pa_cons pe_int (pa_cons pe_int pa_nil))))))
      (pss_cons (ps_if (pt_val (pv 1))
        (pss_one (ps_set (i := 2) sc_rows_by.nd rfl (Or.inr rfl) (pe_op op_add pe_int (pe_call G_drawn (hr.mono (by decide)) (by rfl) T.m__law_drawn T.k__law_drawn T.b__law_drawn .nil pass0 (pa_cons (pv 0) (pa_cons pe_int (pa_cons pe_int pa_nil)))))))
        pss_nil)
      (pss_cons (ps_set (i := 3) sc_rows_by.nd rfl (Or.inl rfl) (pe_lst pa_nil))
      (pss_cons (ps_for PassesOwn.never rfl (pi_range1 (by rfl) T.n_range (pa_cons (pv 2) pa_nil)) (pg_name (i := 4) sc_rows_by.nd rfl (Or.inl rfl))
        (pss_cons (ps_set (i := 5) sc_rows_by.nd rfl (Or.inr rfl) (pe_op op_add pe_int (pe_op op_mul pe_int (pv 4))))
        (pss_cons (ps_set (i := 6) sc_rows_by.nd rfl (Or.inl rfl) (pe_op op_add pe_int (pe_call G_drawn (hr.mono (by decide)) (by rfl) T.m__law_drawn T.k__law_drawn T.b__law_drawn .nil pass0 (pa_cons (pv 0) (pa_cons (pv 5) (pa_cons pe_int pa_nil))))))
        (pss_cons (ps_set (i := 7) sc_rows_by.nd rfl (Or.inr rfl) (pe_op op_add (pv 2) pe_int))
        (pss_cons (ps_if (pt_val (pv 1))
          (pss_cons (ps_set (i := 6) sc_rows_by.nd rfl (Or.inl rfl) (pe_op op_add pe_int (pe_call G_drawn (hr.mono (by decide)) (by rfl) T.m__law_drawn T.k__law_drawn T.b__law_drawn .nil pass0 (pa_cons (pv 0) (pa_cons (pv 5) (pa_cons pe_int pa_nil))))))
          (pss_one (ps_set (i := 7) sc_rows_by.nd rfl (Or.inr rfl) (pe_op op_add (pv 4) pe_int))))
          pss_nil)
        (pss_cons (ps_setComp (i := 8) sc_rows_by.nd rfl rfl (CompSc.of (N' := ["j", "script", "at", "top"]) (ix := [none, some 0, some 5, some 7]) rfl (by kernel_rfl)) rfl rfl rfl rfl (pi_range1 (by rfl) T.n_range (pa_cons (pv 6) pa_nil)) (by exact fun _ _ _ _ _ => pf_nil) (by exact fun _ _ _ _ _ => (pe_op op_sub (pe_call G_drawn (hr.mono (by decide)) (by rfl) T.m__law_drawn T.k__law_drawn T.b__law_drawn .nil pass0 (pa_cons (pv 1) (pa_cons (pe_op op_add (pe_op op_add (pv 2) pe_int) (pv 0)) (pa_cons (pv 3) pa_nil)))) pe_int)))
        (pss_cons (ps_asg (pe_op op_sub (pe_call G_drawn (hr.mono (by decide)) (by rfl) T.m__law_drawn T.k__law_drawn T.b__law_drawn .nil pass0 (pa_cons (pv 0) (pa_cons (pe_op op_add (pv 5) pe_int) (pa_cons (pe_op op_add (pv 4) pe_int) pa_nil)))) pe_int) (pg_sub (pv 8) (pe_call G_drawn (hr.mono (by decide)) (by rfl) T.m__law_drawn T.k__law_drawn T.b__law_drawn .nil pass0 (pa_cons (pv 0) (pa_cons (pe_op op_add (pv 5) pe_int) (pa_cons (pv 6) pa_nil)))) set_list))
        (pss_one (ps_expr (pe_bm PySem.F.plainAttrs_list PySem.F.slot_list_append PySem.F.type_list_append mt_append (pv 3) (pa_cons (pv 8) pa_nil)))))))))))
      (pss_cons (ps_if (PW.pt (pw_and (pt_val (pv 1)) (pw_and1 (pt_cmpR op_gt (pe_call G_drawn (hr.mono (by decide)) (by rfl) T.m__law_drawn T.k__law_drawn T.b__law_drawn .nil pass0 (pa_cons (pv 0) (pa_cons pe_int (pa_cons pe_int pa_nil)))) pe_int (nomark _)))))
        (pss_one (ps_for PassesOwn.never rfl (pi_range1 (by rfl) T.n_range (pa_cons pe_int pa_nil)) (pg_name (i := 9) sc_rows_by.nd rfl (Or.inl rfl))
          (pss_cons (ps_set (i := 8) sc_rows_by.nd rfl (Or.inl rfl) (pe_ix (ix_listK (K := K) rfl) (pv 3) (pe_call G_drawn (hr.mono (by decide)) (by rfl) T.m__law_drawn T.k__law_drawn T.b__law_drawn .nil pass0 (pa_cons (pv 0) (pa_cons (pe_op op_add pe_int (pv 9)) (pa_cons (pv 2) pa_nil)))) (fun _ _ => rfl)))
          (pss_one (ps_if (pt_cmpR op_lt (pe_callB (call_lenK (K := K) rfl) (by rfl) T.n_len PySem.boot_len (pa_cons (pv 8) pa_nil)) pe_int (nomark _))
            (pss_one (ps_expr (pe_bm PySem.F.plainAttrs_list PySem.F.slot_list_insert PySem.F.type_list_insert mt_insert (pv 8) (pa_cons (pe_call G_drawn (hr.mono (by decide)) (by rfl) T.m__law_drawn T.k__law_drawn T.b__law_drawn .nil pass0 (pa_cons (pv 0) (pa_cons (pe_op op_add pe_int (pv 9)) (pa_cons (pe_op op_add (pe_callB (call_lenK (K := K) rfl) (by rfl) T.n_len PySem.boot_len (pa_cons (pv 8) pa_nil)) pe_int) pa_nil)))) (pa_cons (pe_call G_drawn (hr.mono (by decide)) (by rfl) T.m__law_drawn T.k__law_drawn T.b__law_drawn .nil pass0 (pa_cons (pv 0) (pa_cons (pe_op op_add pe_int (pv 9)) (pa_cons (pv 2) pa_nil)))) pa_nil)))))
            pss_nil)))))
        pss_nil)
      (pss_cons (ps_if (pt_cmpR op_eq (pe_call G_drawn (hr.mono (by decide)) (by rfl) T.m__law_drawn T.k__law_drawn T.b__law_drawn .nil pass0 (pa_cons (pv 0) (pa_cons pe_int (pa_cons pe_int pa_nil)))) pe_int (nomark _))
        (pss_one (ps_setComp (i := 3) sc_rows_by.nd rfl rfl (CompSc.of (N' := ["row", "many"]) (ix := [none, some 2]) rfl (by kernel_rfl)) rfl rfl rfl rfl (pi_revK (K := K) rfl (by rfl) T.n_reversed (pa_cons (pv 3) pa_nil)) (by exact fun _ _ _ _ _ => pf_nil) (by exact fun _ _ _ _ _ => (pe_comp (CompSc.of (N' := ["gone", "many"]) (ix := [none, some 1]) rfl (by kernel_rfl)) rfl rfl rfl rfl (pi_listK (K := K) rfl (pv 0)) (by exact fun _ _ _ _ _ => pf_nil) (by exact fun _ _ _ _ _ => (pe_call G_other (hr.mono (by decide)) (by rfl) T.m__law_other T.k__law_other T.b__law_other .nil pass0 (pa_cons (pv 0) (pa_cons (pv 1) pa_nil)))) (fun _ => rfl)))))
        pss_nil)
      (pss_one (ps_ret (pv 3)))))))))), ?_⟩
    have d12 := drawn_nn ns 1 (many := 4) (by decide)
    have d12' := drawn_lt ns 1 (many := 4) (by decide)
    have d28 := drawn_nn ns 2 (many := 8) (by decide)
    have d28' := drawn_lt ns 2 (many := 8) (by decide)
    refine ⟨_, rfl, a, ns, 0, 4, rfl, hS, by decide, by decide, by decide, rfl, ?_⟩
    generalize decide (V.int (drawn ns 0 4) = V.int 1) = big
    refine ⟨_, rfl, a, ns, 1, 4, rfl, hS, by decide, by decide, by decide, _, _, rfl, rfl, ?_⟩
    dsimp only [gName]
    refine seq_mk (fun σ' H' => ∃ many : Int, 1 ≤ many ∧ many ≤ 12 ∧ (big = false → many ≤ 4) ∧ σ' = [some (.ref a), some (.bl big), some (.int many), none, none, none, none, none, none, none] ∧ H = H') ?rest (fun rest => ?way)
    case way =>
      refine ⟨_, rfl, _, rfl, ?_⟩
      refine ite2 (fun hb => ?_) (fun _ => rest _ _ ⟨_, by (first | lia | omega), by (first | lia | omega), fun _ => by (first | lia | omega), rfl, rfl⟩)
      refine ⟨_, rfl, a, ns, 2, 8, rfl, hS, by decide, by decide, by decide, _, _, rfl, rfl, ?_⟩
      exact rest _ _ ⟨_, by (first | lia | omega), by (first | lia | omega), fun z => by subst z; exact absurd hb (by decide), rfl, rfl⟩
    rintro σ' H' ⟨many, hm1, hm12, hm4, rfl, rfl⟩
    -- rows = []
    refine ⟨small12 (by simp), fun R hR => ?_⟩
    have M0 := Mat.new (H := upd H R (.lst [])) (R := R) upd_same
    -- for k in range(many)
    refine ⟨_, rfl, _, rfl, by (first | lia | omega), by (first | lia | omega), ?_⟩
    refine for_range (fun i σ H2 => ∃ (as : List Addr) (rows : List (List Int)) (x4 x5 x6 x7 x8 x9 : Option V), σ = [some (.ref a), some (.bl big), some (.int many), some (.ref R), x4, x5, x6, x7, x8, x9] ∧ Mat H2 R as rows ∧ rows.length = i ∧ (∀ r ∈ rows, RowOk many.toNat r) ∧ Shape rows (fun _ => if big = true then 0 else 2) ∧ Same H H2 ∧ ∀ c ∈ R :: as, H c = none)
      ⟨[], [], none, none, none, none, none, none, rfl, M0, rfl, (fun _ z => by cases z), shape_nil _, same_new hR, fun c hc => by rw [List.mem_singleton.mp hc]; exact hR⟩ ?_ ?_
    · rintro i σ H2 hi ⟨as, rows, x4, x5, x6, x7, x8, x9, rfl, M, hlen, hrow, dn, s2, fr⟩
      have hS2 : SqL K H2 a (ns.map V.int) := s2.seq hS
      have hI : i < 100 := by (first | lia | omega)
      have b3 := drawn_nn ns (10 + 20 * (0 + (i : Int))) (many := 3) (by decide)
      have b3' := drawn_lt ns (10 + 20 * (0 + (i : Int))) (many := 3) (by decide)
      have b8 := drawn_nn ns (10 + 20 * (0 + (i : Int))) (many := 8) (by decide)
      have b8' := drawn_lt ns (10 + 20 * (0 + (i : Int))) (many := 8) (by decide)
      refine ⟨_, rfl, _, _, rfl, rfl, .inl ⟨by decide, by decide⟩, _, _, rfl, rfl, ?_⟩
      refine ⟨_, rfl, _, rfl, a, ns, _, 3, rfl, hS2, by decide, (kb10 hI).1, (kb10 hI).2, _, _, rfl, rfl, ?_⟩
      refine ⟨_, rfl, _, _, rfl, rfl, ?_⟩
      dsimp only [gName]
      refine seq_mk (fun σ' H' => ∃ sz tp : Int, 1 ≤ sz ∧ sz ≤ 8 ∧ 1 ≤ tp ∧ tp ≤ many + 1 ∧ (big = true → tp = (i : Int) + 1) ∧ (big = false → sz ≤ 3) ∧ σ' = [some (.ref a), some (.bl big), some (.int many), some (.ref R), some (.int (0 + (i : Int))), some (.int (10 + 20 * (0 + (i : Int)))), some (.int sz), some (.int tp), x8, x9] ∧ H2 = H') ?rest2 (fun rest => ?way2)
      case way2 =>
        refine ⟨_, rfl, _, rfl, ?_⟩
        refine ite2 (fun hb => ?_) (fun hb => rest _ _ ⟨_, _, by (first | lia | omega), by (first | lia | omega), by (first | lia | omega), by (first | lia | omega), fun z => by subst z; exact absurd rfl hb, fun _ => by (first | lia | omega), rfl, rfl⟩)
        refine ⟨_, rfl, _, rfl, a, ns, _, 8, rfl, hS2, by decide, (kb10 hI).1, (kb10 hI).2, _, _, rfl, rfl, ?_⟩
        refine ⟨_, rfl, _, _, rfl, rfl, ?_⟩
        exact rest _ _ ⟨_, _, by (first | lia | omega), by (first | lia | omega), by (first | lia | omega), by (first | lia | omega), fun _ => by (first | lia | omega), fun z => by subst z; exact absurd hb (by decide), rfl, rfl⟩
      · rintro σ' H' ⟨sz, tp, hz1, hz8, ht1, htm, htb, hzb, rfl, rfl⟩
        refine ⟨_, rfl, _, rfl, by (first | lia | omega), by (first | lia | omega), ?_⟩
        refine comp_pure (ys := ((List.range sz.toNat).map fun (j : Nat) => drawn ns (10 + 20 * (0 + (i : Int)) + 3 + (0 + (j : Int))) tp - 1).map V.int) wk_range (by rw [List.length_map, List.length_range]; exact small12 (by (first | lia | omega))) (by simp) (fun j x y ex ey Q' q' => ?_) (fun D hD => ?_)
        · rw [List.getElem?_map] at ex ey
          rw [List.getElem?_map] at ey
          cases er : (List.range sz.toNat)[j]? with
          | none => rw [er] at ex; cases ex
          | some j' =>
            rw [er] at ex ey
            cases ex
            cases ey
            obtain ⟨hj1, hj2⟩ := List.getElem?_eq_some_iff.mp er
            rw [List.getElem_range] at hj2
            rw [List.length_range] at hj1
            have hJ : j < 100 := by (first | lia | omega)
            subst hj2
            exact ⟨_, rfl, _, rfl, _, _, rfl, rfl, _, rfl, _, _, rfl, rfl, _, rfl, a, ns, _, _, rfl, hS2, ps1 ht1, (kb13 hI hJ).1, (kb13 hI hJ).2, _, _, rfl, rfl, q'⟩
        · have hS3 : ∀ o, SqL K (upd H2 D o) a (ns.map V.int) := fun o => (same_new hD).seq hS2
          have hDn : D ∉ R :: as := fun z => by
            rcases List.mem_cons.mp z with z | z
            · rw [z, M.hd] at hD; cases hD
            · obtain ⟨n, hn, e⟩ := List.getElem_of_mem z
              obtain ⟨a', e1, e2, _⟩ := M.get (i := n) (by rw [← M.len]; exact hn)
              rw [List.getElem?_eq_getElem hn, e] at e1
              cases e1
              rw [hD] at e2; cases e2
          have hRD : R ≠ D := fun z => hDn (by rw [← z]; exact List.mem_cons_self)
          have l1 := drawn_lt ns (10 + 20 * (0 + (i : Int)) + 1) (many := sz) (ps1 hz1)
          refine ⟨_, rfl, _, rfl, _, _, rfl, rfl, _, rfl, _, _, rfl, rfl, a, ns, _, _, rfl, hS3 _, psi, (kb12 hI).1, (kb12 hI).2, _, _, rfl, rfl, _, rfl,
            _, rfl, _, rfl, _, _, rfl, rfl, _, rfl, a, ns, _, _, rfl, hS3 _, ps1 hz1, (kb11 hI).1, (kb11 hI).2, _, _, _, _, rfl, rfl, upd_same, ixN_in (drawn_nn _ _ (ps1 hz1)) (by simp only [List.length_map, List.length_range]; (first | lia | omega)), ?_⟩
          rw [map_set_int, upd_upd]
          have hR3 : ∀ o, (upd H2 D o) R = some (.lst (as.map V.ref)) := fun o => by rw [upd_ne hRD]; exact M.hd
          refine ⟨_, rfl, .inl ⟨rfl, _, SqL.of (hR3 _)⟩, _, rfl, R, _, _, rfl, rfl, hR3 _, (by rw [M.reflen]; exact small1000 (by (first | lia | omega))), ?_⟩
          refine ⟨as ++ [D], _, _, _, _, _, _, _, rfl, (M.upd (b := D) hDn).snoc (D := D) upd_same hDn, by rw [List.length_append, List.length_singleton, hlen], fun r hr => ?_, ?dnn, ?_, fun c hc => ?_⟩
          case dnn =>
            have a1 := drawn_nn ns (10 + 20 * (0 + (i : Int)) + 2) (many := 0 + (i : Int) + 1) psi
            have a2 := drawn_lt ns (10 + 20 * (0 + (i : Int)) + 2) (many := 0 + (i : Int) + 1) psi
            have hmm : (drawn ns (10 + 20 * (0 + (i : Int)) + 2) (0 + (i : Int) + 1) - 1) ∈ ((List.range sz.toNat).map fun (j : Nat) => drawn ns (10 + 20 * (0 + (i : Int)) + 3 + (0 + (j : Int))) tp - 1).set (drawn ns (10 + 20 * (0 + (i : Int)) + 1) sz).toNat (drawn ns (10 + 20 * (0 + (i : Int)) + 2) (0 + (i : Int) + 1) - 1) := by
              rw [List.mem_iff_getElem?]
              exact ⟨(drawn ns (10 + 20 * (0 + (i : Int)) + 1) sz).toNat, List.getElem?_set_self (by rw [List.length_map, List.length_range]; have := drawn_nn ns (10 + 20 * (0 + (i : Int)) + 1) (many := sz) (by (first | lia | omega)); (first | lia | omega))⟩
            refine shape_snoc dn ?_ (by split <;> decide) ⟨_, hmm, by (first | lia | omega)⟩
            rw [hlen]
            by_cases hb : big = true
            · rw [if_pos hb, ups_zero fun e he => ?_]
              · exact Nat.le_refl _
              · have htp := htb hb
                rcases List.mem_or_eq_of_mem_set he with z | z
                · obtain ⟨j, _, rfl⟩ := List.mem_map.mp z
                  have := drawn_lt ns (10 + 20 * (0 + (i : Int)) + 3 + (0 + (j : Int))) (many := tp) (by (first | lia | omega))
                  (first | lia | omega)
                · (first | lia | omega)
            · rw [if_neg hb]
              have hz3 := hzb (by simpa using hb)
              exact ups_small (by rw [List.length_set, List.length_map, List.length_range]; (first | lia | omega)) ⟨_, hmm, by (first | lia | omega)⟩
          · rcases List.mem_append.mp hr with z | z
            · exact hrow r z
            · rw [List.mem_singleton.mp z]
              have a1 := drawn_nn ns (10 + 20 * (0 + (i : Int)) + 2) (many := 0 + (i : Int) + 1) psi
              have a2 := drawn_lt ns (10 + 20 * (0 + (i : Int)) + 2) (many := 0 + (i : Int) + 1) psi
              exact rowok_new (many := many) (by (first | lia | omega)) (by (first | lia | omega)) (by (first | lia | omega)) (by (first | lia | omega)) (by (first | lia | omega)) (fun j => 10 + 20 * (0 + (i : Int)) + 3 + (0 + j)) (by (first | lia | omega))
          · exact same_upd (same_upd s2 (s2.free hD)) (fr R List.mem_cons_self)
          · rcases List.mem_cons.mp hc with z | z
            · rw [z]; exact fr R List.mem_cons_self
            · rcases List.mem_append.mp z with z | z
              · exact fr c (List.mem_cons_of_mem _ z)
              · rw [List.mem_singleton.mp z]; exact s2.free hD
    · rintro σ H2 ⟨as, rows, x4, x5, x6, x7, x8, x9, rfl, M, hlen, hrow, dn, s2, fr⟩
      have hS2 : SqL K H2 a (ns.map V.int) := s2.seq hS
      dsimp only
      refine seq_mk (fun σ' H' => ∃ (as : List Addr) (rows : List (List Int)) (x4 x5 x6 x7 x8 x9 : Option V), σ' = [some (.ref a), some (.bl big), some (.int many), some (.ref R), x4, x5, x6, x7, x8, x9] ∧ Mat H' R as rows ∧ rows.length = many.toNat ∧ (∀ r ∈ rows, RowOk many.toNat r) ∧ Shp many rows ∧ Same H H' ∧ ∀ c ∈ R :: as, H c = none) ?rest3 (fun rest => ?way3)
      case way3 =>
        refine ⟨_, rfl, _, rfl, ?_⟩
        refine ite2 (fun hb => ?_) (fun _ => iteF (rest _ _ ⟨as, rows, x4, x5, x6, x7, x8, x9, rfl, M, hlen, hrow, shp_of dn hm4, s2, fr⟩))
        refine ⟨_, rfl, a, ns, 4, 3, rfl, hS2, by decide, by decide, by decide, _, _, rfl, rfl, _, rfl, ?_⟩
        refine ite2 (fun _ => ?_) (fun _ => rest _ _ ⟨as, rows, x4, x5, x6, x7, x8, x9, rfl, M, hlen, hrow, shp_of dn hm4, s2, fr⟩)
        refine ⟨_, rfl, by decide, by decide, ?_⟩
        refine for_range (fun i σ' H' => ∃ (as : List Addr) (rows : List (List Int)) (x4 x5 x6 x7 x8 x9 : Option V), σ' = [some (.ref a), some (.bl big), some (.int many), some (.ref R), x4, x5, x6, x7, x8, x9] ∧ Mat H' R as rows ∧ rows.length = many.toNat ∧ (∀ r ∈ rows, RowOk many.toNat r) ∧ (∃ u, Shape rows u ∧ sumU u rows.length ≤ i) ∧ Same H H' ∧ ∀ c ∈ R :: as, H c = none) ⟨as, rows, x4, x5, x6, x7, x8, x9, rfl, M, hlen, hrow, ⟨_, dn, by
            have hb' : big = true := hb
            subst hb'
            show sumU (fun _ => 0) _ ≤ 0
            rw [sumU_zero]
            exact Nat.le_refl _⟩, s2, fr⟩ ?_ (fun σ' H' h => by
          obtain ⟨as, rows, x4, x5, x6, x7, x8, x9, h1, M, hlen, hrow, ⟨u, u1, u2⟩, s2, fr⟩ := h
          exact rest σ' H' ⟨as, rows, x4, x5, x6, x7, x8, x9, h1, M, hlen, hrow, ⟨u, u1, .inl u2⟩, s2, fr⟩)
        rintro i σ' H' hi ⟨as, rows, x4, x5, x6, x7, x8, x9, rfl, M, hlen, hrow, ⟨u, dn, du⟩, s2, fr⟩
        have hi3 : i < 3 := hi
        have hI : i < 100 := Nat.lt_trans hi3 (by decide)
        have hS3 : SqL K H' a (ns.map V.int) := s2.seq hS
        have e1 := drawn_nn ns (5 + (0 + (i : Int))) (many := many) (ps1 hm1)
        have e2 := drawn_lt ns (5 + (0 + (i : Int))) (many := many) (ps1 hm1)
        have hn : (drawn ns (5 + (0 + (i : Int))) many).toNat < rows.length := by (first | lia | omega)
        obtain ⟨c, ec, hc, hca⟩ := M.get hn
        have hrn := hrow _ (List.getElem_mem hn)
        have hcl : ((rows[(drawn ns (5 + (0 + (i : Int))) many).toNat]).map V.int).length = (rows[(drawn ns (5 + (0 + (i : Int))) many).toNat]).length := by simp
        refine ⟨_, rfl, _, rfl, _, rfl, _, _, rfl, rfl, _, rfl, a, ns, _, _, rfl, hS3, ps1 hm1, (kbc hI (by decide)).1, (kbc hI (by decide)).2, _, _, _, _, rfl, rfl, M.sq, at_list (n := (drawn ns (5 + (0 + (i : Int))) many).toNat) (by (first | lia | omega)) (by rw [List.getElem?_map, ec]; rfl), ?_⟩
        refine ⟨_, rfl, _, _, rfl, .inl (SqL.of hc), _, _, rfl, rfl, _, rfl, ?_⟩
        refine ite2 (fun h8 => ?_) (fun _ => ⟨as, rows, _, _, _, _, _, _, rfl, M, hlen, hrow, ⟨u, dn, by (first | lia | omega)⟩, s2, fr⟩)
        have h8' : (rows[(drawn ns (5 + (0 + (i : Int))) many).toNat]).length < 8 := by
          rw [hcl] at h8
          have := of_decide_eq_true h8
          (first | lia | omega)
        have f1 := drawn_nn ns (253 + (0 + (i : Int))) (many := ((rows[(drawn ns (5 + (0 + (i : Int))) many).toNat]).length : Int) + 1) psl
        have f2 := drawn_lt ns (253 + (0 + (i : Int))) (many := ((rows[(drawn ns (5 + (0 + (i : Int))) many).toNat]).length : Int) + 1) psl
        have g1 := drawn_nn ns (250 + (0 + (i : Int))) (many := many) (ps1 hm1)
        have g2 := drawn_lt ns (250 + (0 + (i : Int))) (many := many) (ps1 hm1)
        refine ⟨_, rfl, .inl ⟨rfl, _, SqL.of hc⟩, _, rfl, _, rfl, _, _, rfl, rfl, _, rfl, _, _, rfl, .inl (SqL.of hc), _, _, rfl, rfl, a, ns, _, _, rfl, hS3, psl, (kbc hI (by decide)).1, (kbc hI (by decide)).2,
          _, rfl, _, rfl, _, _, rfl, rfl, _, rfl, a, ns, _, _, rfl, hS3, ps1 hm1, (kbc hI (by decide)).1, (kbc hI (by decide)).2, c, _, _, _, rfl, rfl, hc, (by rw [hcl]; exact f1), (by rw [hcl]; (first | lia | omega)), (by rw [hcl]; exact small1000 (by (first | lia | omega))), ?_⟩
        rw [map_ins_int]
        refine ⟨as, _, _, _, _, _, _, _, rfl, M.set ec, by rw [List.length_set]; exact hlen, fun r hr => ?_, by rw [List.length_set]; exact shape_ins dn hn du (by (first | lia | omega)), same_upd s2 (fr c (List.mem_cons_of_mem _ hca)), fr⟩
        rcases List.mem_or_eq_of_mem_set hr with z | z
        · exact hrow r z
        · rw [z]
          exact rowok_ins hrn h8' (by (first | lia | omega))
      rintro σ' H' ⟨as, rows, x4, x5, x6, x7, x8, x9, rfl, M, hlen, hrow, dn, s2, fr⟩
      have W : Wf rows := ⟨by (first | lia | omega), by (first | lia | omega), fun r hr => by rw [hlen]; exact hrow r hr⟩
      have hS3 : SqL K H' a (ns.map V.int) := s2.seq hS
      refine ⟨_, rfl, a, ns, 3, 2, rfl, hS3, by decide, by decide, by decide, rfl, _, rfl, ?_⟩
      refine ite2 (fun _ => ?_) (fun _ => ⟨_, rfl, q R as rows H' W (dn.down W).open (dn.tame W (by (first | lia | omega))) M s2 fr⟩)
      refine ⟨_, rfl, R, _, rfl, M.sq, ?_⟩
      refine comp_news (ls := (rows.reverse.map fun r => r.map (oth many)).map fun r => r.map V.int) (wk_rev M.sq) (by rw [List.length_reverse, M.reflen]; exact small12 (by (first | lia | omega))) (by simp [M.len]) (fun i x l H3 ex el s3 Q' q' => ?_) (fun as' H1 s1 hlen' nd' fr' hrows' D hD => ?_)
      · have hi : i < rows.length := by
          have := (List.getElem?_eq_some_iff.mp ex).1
          rw [List.length_reverse, M.reflen] at this
          exact this
        rw [List.getElem?_reverse (by rw [M.reflen]; exact hi), M.reflen] at ex
        obtain ⟨c, hi', rfl, ec, hc, _⟩ := M.refs ex
        have el' : l = ((rows[rows.length - 1 - i]).map (oth many)).map V.int := by
          rw [List.getElem?_map, List.getElem?_map, List.getElem?_reverse hi] at el
          rw [List.getElem?_eq_getElem hi'] at el
          exact (Option.some.inj el).symm
        subst el'
        have hc3 := s3 _ _ hc
        refine ⟨_, rfl, c, rfl, ⟨_, SqL.of hc3⟩, ?_⟩
        have hz : ((rows[rows.length - 1 - i]).map V.int).length ≤ sizeLine := by
          have := (hrow _ (List.getElem_mem hi')).2.1
          rw [List.length_map]
          exact small12 (by (first | lia | omega))
        refine comp_pure (ys := ((rows[rows.length - 1 - i]).map (oth many)).map V.int) (wk_list (K := K) (SqL.of hc3)) hz (by simp) (fun j x y ex2 ey2 Q2 q2 => ?_) (fun D hD => q' D hD)
        rw [List.getElem?_map] at ex2 ey2
        rw [List.getElem?_map] at ey2
        cases er : (rows[rows.length - 1 - i])[j]? with
        | none => rw [er] at ex2; cases ex2
        | some z =>
          rw [er] at ex2 ey2
          cases ex2
          cases ey2
          exact ⟨_, rfl, _, rfl, _, _, rfl, q2⟩
      · have hl2 : as'.length = (rows.reverse.map fun r => r.map (oth many)).length := by rw [hlen', List.length_map]
        have hrl : (rows.reverse.map fun r => r.map (oth many)).length = rows.length := by simp
        have W2 : Wf (rows.reverse.map fun r => r.map (oth many)) := ⟨by (first | lia | omega), by (first | lia | omega), fun r hr => by
          rw [hrl]
          obtain ⟨r', hr', rfl⟩ := List.mem_map.mp hr
          exact rowok_oth (W.2.2 r' (List.mem_reverse.mp hr')) (by (first | lia | omega))⟩
        refine ⟨_, rfl, q D as' _ _ W2 (open_rev (dn.down W) (fun r hr e he => by have := (W.2.2 r hr).2.2 e he; exact this) (by (first | lia | omega))) (tame_oth (dn.tame W (by (first | lia | omega))) W (by (first | lia | omega))) (mat_of hl2 nd' s1 hrows' hD) (same_upd (s2.trans s1) ((s2.trans s1).free hD)) fun b hb => ?_⟩
        rcases List.mem_cons.mp hb with z | z
        · rw [z]; exact (s2.trans s1).free hD
        · exact s2.free (fr' b z)
theorem sc_check_row : FnScope ["row", "sites", "way"] ["row", "sites"] (defScope s_check_row) := ⟨rfl, rfl, rfl, by decide +kernel, rfl, by decide +kernel, by decide +kernel⟩
theorem ok_check_row (T : Txt K mg A) : FnOk P w K mg base CX0 1 A.f_check_row A.fd_check_row ["row", "sites"] (spCheckRow K) := by
  refine T.F_check_row.ok sc_check_row (fun vs H Q E h => ?_) (fun cdv A' outer s H vs Q E hr h => ?_)
  · obtain ⟨a, r, n, rfl, _⟩ := h
    rfl
  · obtain ⟨a, r, n, rfl, hS, ⟨h1, h8, hr'⟩, q⟩ := h
    refine ⟨_, (pss_cons (ps_if (pt_not (pt_chain op_le op_le pe_int (pe_callB (call_lenK (K := K) rfl) (by rfl) T.n_len PySem.boot_len (pa_cons (pv 0) pa_nil)) (pe_glob (v := .int (8)) (by rfl) T.g_MOST_EXITS ⟨_, rfl⟩)))
        (pss_one ps_never)
        pss_nil)
      (pss_one (ps_for PassesOwn.never rfl (pi_listK (K := K) rfl (pv 0)) (pg_name (i := 2) sc_check_row.nd rfl (Or.inl rfl))
        (pss_one (ps_if (PW.pt (pw_and (pt_cmpR op_ne (pv 2) (pe_glob (v := .int (-1)) (by rfl) T.g_PIT ⟨_, rfl⟩) (nomark _)) (pw_and1 (pt_not (pt_chain op_le op_lt pe_int (pv 2) (pv 1))))))
          (pss_one ps_never)
          pss_nil))))), ?_⟩
    have hl : (r.map V.int).length = r.length := by simp
    refine ⟨_, rfl, _, _, rfl, .inl hS, _, _, rfl, rfl, _, rfl, ?_⟩
    rw [hl, decide_eq_true (show (1 : Int) ≤ (r.length : Int) by (first | lia | omega))]
    refine iteT ?_
    refine ⟨_, _, rfl, rfl, _, rfl, ?_⟩
    rw [decide_eq_true (show (r.length : Int) ≤ 8 by (first | lia | omega))]
    refine iteF ?_
    refine ⟨_, rfl, a, rfl, ⟨_, hS⟩, for_list (K := K) (a := a) (xs := r.map V.int) (fun i σ H2 => ∃ x2 : Option V, σ = [some (.ref a), some (.int (n : Int)), x2] ∧ H2 = H) ⟨none, rfl, rfl⟩ (fun i σ H2 _ ⟨_, _, e⟩ => by rw [e]; exact hS) ?_ ?_⟩
    · rintro i x σ H2 hi ⟨x2, rfl, rfl⟩
      obtain ⟨z, hz, rfl⟩ : ∃ z, z ∈ r ∧ x = V.int z := by
        rw [List.getElem?_map] at hi
        cases e : r[i]? with
        | none => rw [e] at hi; cases hi
        | some z =>
          rw [e] at hi
          exact ⟨z, List.mem_of_getElem? e, (Option.some.inj hi).symm⟩
      obtain ⟨z1, z2⟩ := hr' z hz
      refine ⟨_, rfl, rfl, _, rfl, ?_⟩
      by_cases hp : z = -1
      · subst hp
        refine iteF ?_
        exact iteF ⟨_, rfl, rfl⟩
      · have e : decide (V.int z = V.int (-1)) = false := decide_eq_false (fun w => hp (by injection w))
        rw [e]
        refine iteT ?_
        refine ⟨_, rfl, _, _, rfl, rfl, _, rfl, ?_⟩
        rw [decide_eq_true (show (0 : Int) ≤ z by (first | lia | omega))]
        refine iteT ?_
        refine ⟨_, rfl, _, _, rfl, rfl, _, rfl, ?_⟩
        rw [decide_eq_true (show z < (n : Int) by (first | lia | omega))]
        exact iteF ⟨_, rfl, rfl⟩
    · rintro σ H2 ⟨x2, rfl, rfl⟩
      exact q
theorem sc_check_rows : FnScope ["rows", "row"] ["rows"] (defScope s_check_rows) := ⟨rfl, rfl, rfl, by decide +kernel, rfl, by decide +kernel, by decide +kernel⟩
theorem ok_check_rows (T : Txt K mg A) (G_check_row : FnOk P w K mg base CX0 1 A.f_check_row A.fd_check_row ["row", "sites"] (spCheckRow K)) : FnOk P w K mg base CX0 2 A.f_check_rows A.fd_check_rows ["rows"] spCheckRows := by
  refine T.F_check_rows.ok sc_check_rows (fun vs H Q E h => ?_) (fun cdv A' outer s H vs Q E hr h => ?_)
  · obtain ⟨a, as, rows, rfl, _⟩ := h
    rfl
  · obtain ⟨a, as, rows, rfl, M, ⟨h1, h12, hrow⟩, q⟩ := h
    refine ⟨_, (pss_cons (ps_if (pt_not (pt_chain op_le op_le pe_int (pe_callB (call_lenK (K := K) rfl) (by rfl) T.n_len PySem.boot_len (pa_cons (pv 0) pa_nil)) (pe_glob (v := .int (12)) (by rfl) T.g_MOST_SITES ⟨_, rfl⟩)))
        (pss_one ps_never)
        pss_nil)
      (pss_one (ps_for PassesOwn.never rfl (pi_listK (K := K) rfl (pv 0)) (pg_name (i := 1) sc_check_rows.nd rfl (Or.inl rfl))
        (pss_one (ps_expr (pe_call G_check_row (hr.mono (by decide)) (by rfl) T.m_check_row T.k_check_row T.b_check_row .nil pass0 (pa_cons (pv 1) (pa_cons (pe_callB (call_lenK (K := K) rfl) (by rfl) T.n_len PySem.boot_len (pa_cons (pv 0) pa_nil)) pa_nil)))))))), ?_⟩
    have hl := M.reflen
    refine ⟨_, rfl, _, _, rfl, .inl M.sq, _, _, rfl, rfl, _, rfl, ?_⟩
    rw [hl, decide_eq_true (show (1 : Int) ≤ (rows.length : Int) by (first | lia | omega))]
    refine iteT ?_
    refine ⟨_, _, rfl, rfl, _, rfl, ?_⟩
    rw [decide_eq_true (show (rows.length : Int) ≤ 12 by (first | lia | omega))]
    refine iteF ?_
    refine ⟨_, rfl, a, rfl, ⟨_, M.sq⟩, for_list (K := K) (a := a) (xs := as.map V.ref) (fun i σ H2 => ∃ x1 : Option V, σ = [some (.ref a), x1] ∧ H2 = H) ⟨none, rfl, rfl⟩ (fun i σ H2 _ ⟨_, _, e⟩ => by rw [e]; exact M.sq) ?_ ?_⟩
    · rintro i x σ H2 hi ⟨x1, rfl, rfl⟩
      obtain ⟨c, hi', rfl, ec, hc, _⟩ := M.refs hi
      refine ⟨_, rfl, _, rfl, _, _, rfl, .inl M.sq, c, rows[i], rows.length, (by rw [hl]; rfl), SqL.of hc, hrow _ (List.getElem_mem hi'), ?_⟩
      exact ⟨_, rfl, rfl⟩
    · rintro σ H2 ⟨x1, rfl, rfl⟩
      exact q
theorem sc_Binit : FnScope ["self", "rows"] ["self", "rows"] (defScope s_Binit) := ⟨rfl, rfl, rfl, by decide +kernel, rfl, by decide +kernel, by decide +kernel⟩
theorem ok_Binit (T : Txt K mg A) (G_check_rows : FnOk P w K mg base CX0 2 A.f_check_rows A.fd_check_rows ["rows"] spCheckRows) : FnOk P w K mg base CX0 3 A.f_Binit A.fd_Binit ["self", "rows"] (spInit A.C) := by
  refine T.F_Binit.ok sc_Binit (fun vs H Q E h => ?_) (fun cdv A' outer s H vs Q E hr h => ?_)
  · obtain ⟨p, dx, aH, asH, rows, rfl, _⟩ := h
    rfl
  · obtain ⟨p, dx, aH, asH, rows, rfl, hp, M, W, q⟩ := h
    refine ⟨_, (pss_cons (ps_expr (pe_call G_check_rows (hr.mono (by decide)) (by rfl) T.m_check_rows T.k_check_rows T.b_check_rows .nil pass0 (pa_cons (pv 1) pa_nil)))
      (pss_cons (ps_fldK (K := K) rfl (pv 0) (pe_comp (CompSc.of (N' := ["row"]) (ix := [none]) rfl (by kernel_rfl)) rfl rfl rfl rfl (pi_listK (K := K) rfl (pv 1)) (by exact fun _ _ _ _ _ => pf_nil) (by exact fun _ _ _ _ _ => (pe_callTy (call_listK (K := K) rfl) (by rfl) T.n_list PyProof.Rows.Boot.«list» (pa_cons (pv 0) pa_nil))) (fun _ => rfl)) rfl)
      (pss_cons (ps_fldK (K := K) rfl (pv 0) (pe_op op_rep (pe_lst (pa_cons pe_int pa_nil)) (pe_callB (call_lenK (K := K) rfl) (by rfl) T.n_len PySem.boot_len (pa_cons (pv 1) pa_nil))) rfl)
      (pss_cons (ps_fldK (K := K) rfl (pv 0) (pe_op op_rep (pe_lst (pa_cons pe_int pa_nil)) (pe_callB (call_lenK (K := K) rfl) (by rfl) T.n_len PySem.boot_len (pa_cons (pv 1) pa_nil))) rfl)
      (pss_cons (ps_fldK (K := K) rfl (pv 0) (pe_op op_rep (pe_lst (pa_cons pe_int pa_nil)) (pe_callB (call_lenK (K := K) rfl) (by rfl) T.n_len PySem.boot_len (pa_cons (pv 1) pa_nil))) rfl)
      (pss_one (ps_fldK (K := K) rfl (pv 0) pe_int rfl))))))), ?_⟩
    obtain ⟨h1, h12, hrow⟩ := id W
    have hl := M.reflen
    -- check_rows(rows)
    refine ⟨_, rfl, aH, asH, rows, rfl, M, W, ?_⟩
    -- self.rows = [list(row) for row in rows]
    refine ⟨_, rfl, aH, rfl, ⟨_, M.sq⟩, ?_⟩
    refine comp_news (ls := rows.map fun r => r.map V.int) (wk_list M.sq) (by rw [hl]; exact small12 (by (first | lia | omega))) (by rw [List.length_map, hl]) (fun i x l H3 ex el s3 Q' q' => ?_) (fun as H1 s1 hlen nd fr hrows aR hR => ?_)
    · obtain ⟨c, hi', rfl, ec, hc, _⟩ := M.refs ex
      rw [List.getElem?_map, List.getElem?_eq_getElem hi'] at el
      cases el
      exact ⟨_, rfl, _, _, rfl, .inl (SqL.of (s3 _ _ hc)), q'⟩
    · rw [List.length_map] at hlen
      have MR := mat_of (H := H) (R := aR) hlen nd s1 hrows hR
      have hp1 := s1 _ _ hp
      have npR : p ≠ aR := ne_of_none hp1 hR
      refine ⟨_, rfl, p, A.C, dx, [], rfl, (by rw [upd_ne npR]; exact hp1), T.cl_Board, T.na_rows, (by show 0 < 1000; decide), ?_⟩
      generalize hH2 : upd (upd H1 aR (.lst (as.map V.ref))) p (.ins A.C dx (putF "rows" (.ref aR) [])) = H2
      have e2p : H2 p = some (.ins A.C dx (putF "rows" (.ref aR) [])) := by rw [← hH2]; exact upd_same
      have e2 : ∀ c, c ≠ p → H2 c = upd H1 aR (.lst (as.map V.ref)) c := fun c hc => by rw [← hH2]; exact upd_ne hc
      -- self.turns = [0] * len(rows)
      have M1 : SqL K H2 aH (asH.map V.ref) := by
        have := s1 _ _ M.hd
        refine SqL.of ?_
        rw [e2 aH (ne_of M.hd hp (by intro z; cases z)), upd_ne (ne_of_none this hR)]
        exact this
      have zz : ∀ k : Nat, (List.replicate k [V.int 0]).flatten = (List.replicate k (0 : Int)).map V.int := fun k => by
        induction k with
        | zero => rfl
        | succ k ih => rw [List.replicate_succ, List.flatten_cons, ih, List.replicate_succ]; rfl
      refine ⟨small12 (by show 1 ≤ 100; decide), fun l1 hl1 => ⟨_, rfl, _, _, rfl, .inl ((same_new hl1).seq M1), l1, _, _, rfl, rfl, upd_same, by (first | lia | omega), by (first | lia | omega), by rw [hl]; exact small12 (by simp; (first | lia | omega)), fun aT hT => ?_⟩⟩
      have nT1 : aT ≠ l1 := fun z => by rw [z, upd_same] at hT; cases hT
      rw [upd_ne nT1] at hT
      have npl : p ≠ l1 := ne_of_none e2p hl1
      have npT : p ≠ aT := ne_of_none e2p hT
      refine ⟨_, rfl, p, A.C, dx, _, rfl, (by rw [upd_ne npT, upd_ne npl]; exact e2p), T.cl_Board, T.na_turns, (by show 1 < 1000; decide), ?_⟩
      rw [hl, Int.toNat_natCast, zz]
      generalize hH3 : upd (upd (upd H2 l1 (.lst [V.int 0])) aT (.lst ((List.replicate rows.length (0 : Int)).map V.int))) p (.ins A.C dx (putF "turns" (.ref aT) (putF "rows" (.ref aR) []))) = H3
      have e3p : H3 p = some (.ins A.C dx (putF "turns" (.ref aT) (putF "rows" (.ref aR) []))) := by rw [← hH3]; exact upd_same
      have e3T : H3 aT = some (.lst ((List.replicate rows.length (0 : Int)).map V.int)) := by rw [← hH3, upd_ne (Ne.symm npT)]; exact upd_same
      have e3 : ∀ c o, c ≠ p → H2 c = some o → H3 c = some o := fun c o hc e => by
        rw [← hH3, upd_ne hc, upd_ne (ne_of_none e hT), upd_ne (ne_of_none e hl1)]
        exact e
      have f3 : ∀ c, H3 c = none → H2 c = none := fun c e => by
        cases q : H2 c with
        | none => rfl
        | some o =>
          by_cases hc : c = p
          · rw [hc, e3p] at e; cases e
          · rw [e3 c o hc q] at e; cases e
      -- self.loads = [0] * len(rows)
      have M3 : H3 aH = some (.lst (asH.map V.ref)) := by
        rcases M1 with (m | ⟨o, m⟩) | m
        · exact e3 _ _ (ne_of M.hd hp (by intro z; cases z)) m
        · have := s1 _ _ M.hd
          rw [e2 aH (ne_of M.hd hp (by intro z; cases z)), upd_ne (ne_of_none this hR), this] at m
          cases m
        · have := s1 _ _ M.hd
          refine e3 _ _ (ne_of M.hd hp (by intro z; cases z)) ?_
          rw [e2 aH (ne_of M.hd hp (by intro z; cases z)), upd_ne (ne_of_none this hR)]
          exact this
      refine ⟨small12 (by show 1 ≤ 100; decide), fun l2 hl2 => ⟨_, rfl, _, _, rfl, .inl (SqL.of (same_new hl2 _ _ M3)), l2, _, _, rfl, rfl, upd_same, by (first | lia | omega), by (first | lia | omega), by rw [hl]; exact small12 (by simp; (first | lia | omega)), fun aL hL => ?_⟩⟩
      have nL2 : aL ≠ l2 := fun z => by rw [z, upd_same] at hL; cases hL
      rw [upd_ne nL2] at hL
      have npl2 : p ≠ l2 := ne_of_none e3p hl2
      have npL : p ≠ aL := ne_of_none e3p hL
      refine ⟨_, rfl, p, A.C, dx, _, rfl, (by rw [upd_ne npL, upd_ne npl2]; exact e3p), T.cl_Board, T.na_loads, (by show 2 < 1000; decide), ?_⟩
      rw [hl, Int.toNat_natCast, zz]
      generalize hH4 : upd (upd (upd H3 l2 (.lst [V.int 0])) aL (.lst ((List.replicate rows.length (0 : Int)).map V.int))) p (.ins A.C dx (putF "loads" (.ref aL) (putF "turns" (.ref aT) (putF "rows" (.ref aR) [])))) = H4
      have e4p : H4 p = some (.ins A.C dx (putF "loads" (.ref aL) (putF "turns" (.ref aT) (putF "rows" (.ref aR) [])))) := by rw [← hH4]; exact upd_same
      have e4L : H4 aL = some (.lst ((List.replicate rows.length (0 : Int)).map V.int)) := by rw [← hH4, upd_ne (Ne.symm npL)]; exact upd_same
      have e4 : ∀ c o, c ≠ p → H3 c = some o → H4 c = some o := fun c o hc e => by
        rw [← hH4, upd_ne hc, upd_ne (ne_of_none e hL), upd_ne (ne_of_none e hl2)]
        exact e
      have f4 : ∀ c, H4 c = none → H3 c = none := fun c e => by
        cases q : H3 c with
        | none => rfl
        | some o =>
          by_cases hc : c = p
          · rw [hc, e4p] at e; cases e
          · rw [e4 c o hc q] at e; cases e
      have npH : aH ≠ p := ne_of M.hd hp (by intro z; cases z)
      have M4 := e4 _ _ npH M3
      -- self.steps = [0] * len(rows)
      refine ⟨small12 (by show 1 ≤ 100; decide), fun l3 hl3 => ⟨_, rfl, _, _, rfl, .inl (SqL.of (same_new hl3 _ _ M4)), l3, _, _, rfl, rfl, upd_same, by (first | lia | omega), by (first | lia | omega), by rw [hl]; exact small12 (by simp; (first | lia | omega)), fun aS hS => ?_⟩⟩
      have nS3 : aS ≠ l3 := fun z => by rw [z, upd_same] at hS; cases hS
      rw [upd_ne nS3] at hS
      have npl3 : p ≠ l3 := ne_of_none e4p hl3
      have npS : p ≠ aS := ne_of_none e4p hS
      refine ⟨_, rfl, p, A.C, dx, _, rfl, (by rw [upd_ne npS, upd_ne npl3]; exact e4p), T.cl_Board, T.na_steps, (by show 3 < 1000; decide), ?_⟩
      rw [hl, Int.toNat_natCast, zz]
      -- self.taken = 0
      refine ⟨_, rfl, p, A.C, dx, _, rfl, upd_same, T.cl_Board, T.na_taken, (by show 4 < 1000; decide), ?_⟩
      rw [upd_upd]
      rw [bflds_mk]
      generalize hH5 : upd (upd (upd H4 l3 (.lst [V.int 0])) aS (.lst ((List.replicate rows.length (0 : Int)).map V.int))) p (.ins A.C dx (bflds aR aT aL aS 0)) = H5
      have e5p : H5 p = some (.ins A.C dx (bflds aR aT aL aS 0)) := by rw [← hH5]; exact upd_same
      have e5S : H5 aS = some (.lst ((List.replicate rows.length (0 : Int)).map V.int)) := by rw [← hH5, upd_ne (Ne.symm npS)]; exact upd_same
      have e5 : ∀ c o, c ≠ p → H4 c = some o → H5 c = some o := fun c o hc e => by
        rw [← hH5, upd_ne hc, upd_ne (ne_of_none e hS), upd_ne (ne_of_none e hl3)]
        exact e
      have up : ∀ c o, c ≠ p → upd H1 aR (.lst (as.map V.ref)) c = some o → H5 c = some o := fun c o hc e => e5 c o hc (e4 c o hc (e3 c o hc (by rw [e2 c hc]; exact e)))
      have e5T : H5 aT = some (.lst ((List.replicate rows.length (0 : Int)).map V.int)) := e5 _ _ (Ne.symm npT) (e4 _ _ (Ne.symm npT) e3T)
      have e5L : H5 aL = some (.lst ((List.replicate rows.length (0 : Int)).map V.int)) := e5 _ _ (Ne.symm npL) e4L
      have pas : ∀ c ∈ aR :: as, c ≠ p := fun c hc z => by
        rcases List.mem_cons.mp hc with h | h
        · exact npR (by rw [← z, h])
        · have := fr c h
          rw [z, hp] at this
          cases this
      have MR5 : Mat H5 aR as rows := MR.keep fun c o hc e => up c o (pas c hc) e
      have hn2 : ∀ c, H2 c = none → c ∉ aR :: as := fun c e hc => by
        rw [e2 c (pas c hc)] at e
        rcases List.mem_cons.mp hc with z | z
        · rw [z, upd_same] at e; cases e
        · obtain ⟨i, hi, ei⟩ := List.getElem_of_mem z
          obtain ⟨c', ec1, ec2, _⟩ := MR.get (i := i) (by rw [← hlen]; exact hi)
          rw [List.getElem?_eq_getElem hi, ei] at ec1
          cases ec1
          rw [ec2] at e; cases e
      have nLT : aL ≠ aT := fun z => by rw [z, e3T] at hL; cases hL
      have nST : aS ≠ aT := fun z => by rw [z, e4 _ _ (Ne.symm npT) e3T] at hS; cases hS
      have nSL : aS ≠ aL := fun z => by rw [z, e4L] at hS; cases hS
      have tH : ∀ c, H2 c = none → H c = none := fun c e => by
        cases q' : H c with
        | none => rfl
        | some o =>
          exfalso
          by_cases hc : c = p
          · rw [hc, e2p] at e; cases e
          · have := s1 _ _ q'
            rw [e2 c hc, upd_ne (ne_of_none this hR), this] at e
            cases e
      have nd5 : (p :: aT :: aL :: aS :: aR :: as).Nodup := by
        have x1 := hn2 aT hT
        have x2 := hn2 aL (f3 aL hL)
        have x3 := hn2 aS (f3 aS (f4 aS hS))
        simp only [List.nodup_cons, List.mem_cons, not_or] at x1 x2 x3 ⊢
        have y := MR.nd
        simp only [List.nodup_cons] at y
        refine ⟨⟨npT, npL, npS, npR, fun z => pas p (List.mem_cons_of_mem _ z) rfl⟩, ⟨Ne.symm nLT, Ne.symm nST, x1.1, x1.2⟩, ⟨Ne.symm nSL, x2.1, x2.2⟩, ⟨x3.1, x3.2⟩, y.1, y.2⟩
      refine q aR as aT aL aS H5 ⟨e5p, MR5, e5T, e5L, e5S, nd5⟩ (fun c o e hc => ?_) (fun c hc => ?_)
      · have := s1 _ _ e
        exact up c o hc (by rw [upd_ne (ne_of_none this hR)]; exact this)
      · simp only [List.mem_cons] at hc
        rcases hc with z | z | z | z | z
        · rw [z]; exact tH _ hT
        · rw [z]; exact tH _ (f3 _ hL)
        · rw [z]; exact tH _ (f3 _ (f4 _ hS))
        · rw [z]; exact s1.free hR
        · exact fr c z
theorem sc_whole : FnScope ["found"] ["found"] (defScope s_whole) := ⟨rfl, rfl, rfl, by decide +kernel, rfl, by decide +kernel, by decide +kernel⟩
theorem ok_whole (T : Txt K mg A) : FnOk P w K mg base CX0 1 A.f_whole A.fd_whole ["found"] spWhole := by
  refine T.F_whole.ok sc_whole (fun vs H Q E h => ?_) (fun cdv A' outer s H vs Q E hr h => ?_)
  · obtain ⟨i, rfl, _⟩ := h
    rfl
  · obtain ⟨i, rfl, q⟩ := h
    refine ⟨_, (pss_one (ps_ret (pe_and (pe_callB (call_isiK (K := K) rfl) (by rfl) T.n_isinstance PyProof.Rows.Boot.«isinstance» (pa_cons (pv 0) (pa_cons (pe_bltn (v := .ty "int") (by rfl) T.n_int PyProof.Rows.Boot.«int» rfl) pa_nil))) (pe_one (pe_not (pe_callB (call_isiK (K := K) rfl) (by rfl) T.n_isinstance PyProof.Rows.Boot.«isinstance» (pa_cons (pv 0) (pa_cons (pe_bltn (v := .ty "bool") (by rfl) T.n_bool PyProof.Rows.Boot.«bool» rfl) pa_nil)))))))), ?_⟩
    refine ⟨_, rfl, _, _, _, _, true, rfl, rfl, .int i, rfl, _, rfl, ?_⟩
    refine iteT ?_
    exact ⟨_, rfl, _, _, _, _, false, rfl, rfl, .int i, T.q_int_bool, _, rfl, q⟩
theorem sc_row : FnScope ["found", "due", "k"] ["found", "due"] (defScope s_row) := ⟨rfl, rfl, rfl, by decide +kernel, rfl, by decide +kernel, by decide +kernel⟩
theorem ok_row (T : Txt K mg A) (G_whole : FnOk P w K mg base CX0 1 A.f_whole A.fd_whole ["found"] spWhole) : FnOk P w K mg base CX0 2 A.f_row A.fd_row ["found", "due"] (spRow K) := by
  refine T.F_row.ok sc_row (fun vs H Q E h => ?_) (fun cdv A' outer s H vs Q E hr h => ?_)
  · obtain ⟨a, b, xs, rfl, _⟩ := h
    rfl
  · obtain ⟨a, b, xs, rfl, ha, hb, hx, q⟩ := h
    refine ⟨_, (pss_cons (ps_if (PW.pt (pw_or (pt_not (pt_val (pe_callB (call_isiK (K := K) rfl) (by rfl) T.n_isinstance PyProof.Rows.Boot.«isinstance» (pa_cons (pv 0) (pa_cons (pe_bltn (v := .ty "list") (by rfl) T.n_list PyProof.Rows.Boot.«list» rfl) pa_nil))))) (pw_or1 (pt_cmpR op_ne (pe_callB (call_lenK (K := K) rfl) (by rfl) T.n_len PySem.boot_len (pa_cons (pv 0) pa_nil)) (pe_callB (call_lenK (K := K) rfl) (by rfl) T.n_len PySem.boot_len (pa_cons (pv 1) pa_nil)) (nomark _)))))
        (pss_one (ps_ret pe_bl))
        pss_nil)
      (pss_cons (ps_for PassesOwn.never rfl (pi_range1 (by rfl) T.n_range (pa_cons (pe_callB (call_lenK (K := K) rfl) (by rfl) T.n_len PySem.boot_len (pa_cons (pv 1) pa_nil)) pa_nil)) (pg_name (i := 2) sc_row.nd rfl (Or.inl rfl))
        (pss_one (ps_if (PW.pt (pw_or (pt_not (pt_val (pe_call G_whole (hr.mono (by decide)) (by rfl) T.m__law_whole T.k__law_whole T.b__law_whole .nil pass0 (pa_cons (pe_ix (ix_listK (K := K) rfl) (pv 0) (pv 2) (fun _ _ => rfl)) pa_nil)))) (pw_or1 (pt_cmpR op_ne (pe_ix (ix_listK (K := K) rfl) (pv 0) (pv 2) (fun _ _ => rfl)) (pe_ix (ix_listK (K := K) rfl) (pv 1) (pv 2) (fun _ _ => rfl)) (nomark _)))))
          (pss_one (ps_ret pe_bl))
          pss_nil)))
      (pss_one (ps_ret pe_bl)))), ?_⟩
    have hl : (xs.map V.int).length = xs.length := by simp
    refine ⟨_, rfl, _, _, _, _, true, rfl, rfl, .lst ha, rfl, _, rfl, ?_⟩
    refine iteF ?_
    refine ⟨_, rfl, _, _, rfl, .inl (SqL.of ha), _, rfl, _, _, rfl, .inl hb, rfl, _, rfl, ?_⟩
    refine iteNS rfl ?_
    refine ⟨_, rfl, _, _, rfl, .inl hb, _, rfl, by (first | lia | omega), by (first | lia | omega), ?_⟩
    refine for_range (fun i σ H2 => ∃ x2 : Option V, σ = [some (.ref a), some (.ref b), x2] ∧ H = H2) ⟨none, rfl, rfl⟩ ?_ ?_
    · rintro i σ H2 hi ⟨x2, rfl, rfl⟩
      have hi' : i < xs.length := by rw [hl] at hi; simpa using hi
      have hat : atI (xs.map V.int) (0 + (i : Int)) = some (V.int xs[i]) := at_list (n := i) (by (first | lia | omega)) (by rw [List.getElem?_map, List.getElem?_eq_getElem hi']; rfl)
      refine ⟨_, rfl, _, rfl, _, _, _, _, rfl, rfl, SqL.of ha, hat, _, rfl, _, rfl, ?_⟩
      refine iteF ?_
      refine ⟨_, rfl, _, rfl, _, _, _, _, rfl, rfl, SqL.of ha, hat, _, rfl, _, rfl, _, _, _, _, rfl, rfl, hb, hat, rfl, _, rfl, ?_⟩
      refine iteNS rfl ?_
      exact ⟨_, rfl, rfl⟩
    · rintro σ H2 ⟨x2, rfl, rfl⟩
      exact q
theorem sc_stands : FnScope ["board", "rows", "turns", "lying", "counts", "k"] ["board", "rows", "turns", "lying", "counts"] (defScope s_stands) := ⟨rfl, rfl, rfl, by decide +kernel, rfl, by decide +kernel, by decide +kernel⟩
theorem ok_stands (T : Txt K mg A) (G_whole : FnOk P w K mg base CX0 1 A.f_whole A.fd_whole ["found"] spWhole) (G_row : FnOk P w K mg base CX0 2 A.f_row A.fd_row ["found", "due"] (spRow K)) : FnOk P w K mg base CX0 3 A.f_stands A.fd_stands ["board", "rows", "turns", "lying", "counts"] (spStands K A.C) := by
  refine T.F_stands.ok sc_stands (fun vs H Q E h => ?_) (fun cdv A' outer s H vs Q E hr h => ?_)
  · obtain ⟨p, dx, aR, as, aT, aL, aS, b, R, asR, tA, lA, cA, rfl, _⟩ := h
    rfl
  · obtain ⟨p, dx, aR, as, aT, aL, aS, b, R, asR, tA, lA, cA, rfl, B, MR, hT, hL, hC, n1, n2, n3, n4, n5, q⟩ := h
    refine ⟨_, (pss_cons (ps_if (PW.pt (pw_or (pt_not (pt_val (pe_callB (call_isiK (K := K) rfl) (by rfl) T.n_isinstance PyProof.Rows.Boot.«isinstance» (pa_cons (pe_fldK (K := K) rfl (pv 0) rfl) (pa_cons (pe_bltn (v := .ty "list") (by rfl) T.n_list PyProof.Rows.Boot.«list» rfl) pa_nil))))) (pw_or1 (pt_cmpR op_ne (pe_callB (call_lenK (K := K) rfl) (by rfl) T.n_len PySem.boot_len (pa_cons (pe_fldK (K := K) rfl (pv 0) rfl) pa_nil)) (pe_callB (call_lenK (K := K) rfl) (by rfl) T.n_len PySem.boot_len (pa_cons (pv 1) pa_nil)) (nomark _)))))
        (pss_one (ps_ret pe_bl))
        pss_nil)
      (pss_cons (ps_for PassesOwn.never rfl (pi_range1 (by rfl) T.n_range (pa_cons (pe_callB (call_lenK (K := K) rfl) (by rfl) T.n_len PySem.boot_len (pa_cons (pv 1) pa_nil)) pa_nil)) (pg_name (i := 5) sc_stands.nd rfl (Or.inl rfl))
        (pss_one (ps_if (pt_not (pt_val (pe_call G_row (hr.mono (by decide)) (by rfl) T.m__law_row T.k__law_row T.b__law_row .nil pass0 (pa_cons (pe_ix (ix_listK (K := K) rfl) (pe_fldK (K := K) rfl (pv 0) rfl) (pv 5) (fun _ _ => rfl)) (pa_cons (pe_ix (ix_listK (K := K) rfl) (pv 1) (pv 5) (fun _ _ => rfl)) pa_nil)))))
          (pss_one (ps_ret pe_bl))
          pss_nil)))
      (pss_cons (ps_if (PW.pt (pw_or (pt_not (pt_val (pe_call G_row (hr.mono (by decide)) (by rfl) T.m__law_row T.k__law_row T.b__law_row .nil pass0 (pa_cons (pe_fldK (K := K) rfl (pv 0) rfl) (pa_cons (pv 2) pa_nil))))) (pw_or1 (pt_not (pt_val (pe_call G_row (hr.mono (by decide)) (by rfl) T.m__law_row T.k__law_row T.b__law_row .nil pass0 (pa_cons (pe_fldK (K := K) rfl (pv 0) rfl) (pa_cons (pe_slice (sl_listK (K := K) rfl) (pv 3) po_none (po_some (pe_un un_neg pe_int))) pa_nil))))))))
        (pss_one (ps_ret pe_bl))
        pss_nil)
      (pss_cons (ps_if (PW.pt (pw_or (pt_not (pt_val (pe_call G_whole (hr.mono (by decide)) (by rfl) T.m__law_whole T.k__law_whole T.b__law_whole .nil pass0 (pa_cons (pe_fldK (K := K) rfl (pv 0) rfl) pa_nil)))) (pw_or1 (pt_cmpR op_ne (pe_fldK (K := K) rfl (pv 0) rfl) (pe_ix (ix_listK (K := K) rfl) (pv 3) (pe_un un_neg pe_int) (fun _ _ => rfl)) (nomark _)))))
        (pss_one (ps_ret pe_bl))
        pss_nil)
      (pss_one (ps_ret (pe_call G_row (hr.mono (by decide)) (by rfl) T.m__law_row T.k__law_row T.b__law_row .nil pass0 (pa_cons (pe_fldK (K := K) rfl (pv 0) rfl) (pa_cons (pv 4) pa_nil))))))))), ?_⟩
    have l1 := B.mat.reflen
    have l2 := MR.reflen
    refine ⟨_, rfl, p, A.C, dx, _, _, rfl, B.ob, T.cl_Board, T.na_rows, bf_rows _ _ _ _ _, _, _, _, _, true, rfl, rfl, .lst B.mat.hd, rfl, _, rfl, ?_⟩
    refine iteF ?_
    refine ⟨_, rfl, p, A.C, dx, _, _, rfl, B.ob, T.cl_Board, T.na_rows, bf_rows _ _ _ _ _, _, _, rfl, .inl B.mat.sq, _, rfl, _, _, rfl, .inl MR.sq, rfl, _, rfl, ?_⟩
    refine iteNS (by rw [l1, l2]) ?_
    refine ⟨_, rfl, _, _, rfl, .inl MR.sq, _, rfl, by (first | lia | omega), by (first | lia | omega), ?_⟩
    refine for_range (fun i σ H2 => ∃ x5 : Option V, σ = [some (.ref p), some (.ref R), some (.ref tA), some (.ref lA), some (.ref cA), x5] ∧ H = H2) ⟨none, rfl, rfl⟩ ?_ ?_
    · rintro i σ H2 hi ⟨x5, rfl, rfl⟩
      have hi' : i < b.rows.length := by rw [l2] at hi; simpa using hi
      obtain ⟨c, ec, hc, _⟩ := B.mat.get hi'
      obtain ⟨d, ed, hd, _⟩ := MR.get hi'
      refine ⟨_, rfl, p, A.C, dx, _, _, rfl, B.ob, T.cl_Board, T.na_rows, bf_rows _ _ _ _ _, _, rfl, _, _, _, _, rfl, rfl, B.mat.sq, at_list (n := i) (by (first | lia | omega)) (by rw [List.getElem?_map, ec]; rfl), _, rfl, _, rfl, _, _, _, _, rfl, rfl, MR.sq, at_list (n := i) (by (first | lia | omega)) (by rw [List.getElem?_map, ed]; rfl), c, d, _, rfl, hc, SqL.of hd, (by have := n2 _ (List.getElem_mem hi'); (first | lia | omega)), _, rfl, ?_⟩
      refine iteF ?_
      exact ⟨_, rfl, rfl⟩
    · rintro σ H2 ⟨x5, rfl, rfl⟩
      refine ⟨_, rfl, p, A.C, dx, _, _, rfl, B.ob, T.cl_Board, T.na_turns, bf_turns _ _ _ _ _, _, rfl, aT, tA, _, rfl, B.hT, hT, by (first | lia | omega), _, rfl, ?_⟩
      refine iteF ?_
      refine ⟨_, rfl, p, A.C, dx, _, _, rfl, B.ob, T.cl_Board, T.na_loads, bf_loads _ _ _ _ _, _, rfl, _, rfl, _, rfl, _, _, rfl, hL, fun l hl => ?_⟩
      have s1 : Same H (upd H l (.lst (cutV ((b.loads ++ [b.taken]).map V.int) none (some (-1))))) := same_new hl
      rw [cut_last] at s1 ⊢
      have B1 := B.same s1
      refine ⟨aL, l, _, rfl, B1.hL, SqL.of upd_same, by (first | lia | omega), _, rfl, ?_⟩
      refine iteF ?_
      refine ⟨_, rfl, p, A.C, dx, _, _, rfl, B1.ob, T.cl_Board, T.na_taken, bf_taken _ _ _ _ _, _, rfl, _, rfl, ?_⟩
      refine iteF ?_
      refine ⟨_, rfl, p, A.C, dx, _, _, rfl, B1.ob, T.cl_Board, T.na_taken, bf_taken _ _ _ _ _, _, rfl, _, rfl, _, _, _, _, rfl, rfl, s1.seq hL, at_last_int _ _, rfl, _, rfl, ?_⟩
      refine iteNS rfl ?_
      exact ⟨_, rfl, p, A.C, dx, _, _, rfl, B1.ob, T.cl_Board, T.na_steps, bf_steps _ _ _ _ _, _, rfl, aS, cA, _, rfl, B1.hS, s1.seq hC, by (first | lia | omega), q _ s1⟩
theorem sc_check_site : FnScope ["board", "at"] ["board", "at"] (defScope s_check_site) := ⟨rfl, rfl, rfl, by decide +kernel, rfl, by decide +kernel, by decide +kernel⟩
theorem ok_check_site (T : Txt K mg A) : FnOk P w K mg base (CX1 P w) 1 A.f_check_site A.fd_check_site ["board", "at"] (spSite A.C A.c_NoSite) := by
  refine T.F_check_site.okX sc_check_site (fun vs H Q E h => ?_) (fun cdv A' outer s H vs Q E hr h => ?_)
  · obtain ⟨p, dx, aR, as, aT, aL, aS, b, z, rfl, _⟩ := h
    rfl
  · obtain ⟨p, dx, aR, as, aT, aL, aS, b, z, rfl, B, z1, z2, q1, q2⟩ := h
    refine ⟨_, (pss_one (ps_if (pt_not (pt_chain op_le op_lt pe_int (pv 1) (pe_callB (call_lenK (K := K) rfl) (by rfl) T.n_len PySem.boot_len (pa_cons (pe_fldK (K := K) rfl (pv 0) rfl) pa_nil))))
        (pss_one (ps_raise raises_cx rfl (by rfl) T.m_NoSite T.x_NoSite (pa_cons (pe_fs (pj_str (by decide +kernel) (pj_int (pv 1) pj_nil)) (by decide)) pa_nil)))
        pss_nil)), ?_⟩
    have l1 := B.mat.reflen
    have lg := log2_small z1 z2
    refine ⟨_, rfl, _, _, rfl, rfl, _, rfl, ?_⟩
    by_cases h0 : 0 ≤ z
    · rw [decide_eq_true h0]
      refine iteT ?_
      refine ⟨_, rfl, p, A.C, dx, _, _, rfl, B.ob, T.cl_Board, T.na_rows, bf_rows _ _ _ _ _, _, _, rfl, .inl B.mat.sq, _, _, rfl, rfl, _, rfl, ?_⟩
      rw [l1]
      by_cases h1 : z < (b.rows.length : Int)
      · rw [decide_eq_true h1]
        exact iteF (q1 ⟨h0, h1⟩)
      · rw [decide_eq_false h1]
        refine iteT ?_
        exact ⟨⟨_, rfl, _, rfl, lg, rfl, trivial⟩, fun x => ⟨small12 (by show 1 ≤ 100; decide), q2 (fun w => h1 w.2)⟩⟩
    · rw [decide_eq_false h0]
      refine iteF ?_
      refine ⟨_, rfl, ?_⟩
      refine iteT ?_
      exact ⟨⟨_, rfl, _, rfl, lg, rfl, trivial⟩, fun x => ⟨small12 (by show 1 ≤ 100; decide), q2 (fun w => h0 w.1)⟩⟩
theorem sc_Bturn_to : FnScope ["self", "at", "place"] ["self", "at", "place"] (defScope s_Bturn_to) := ⟨rfl, rfl, rfl, by decide +kernel, rfl, by decide +kernel, by decide +kernel⟩
theorem ok_Bturn_to (T : Txt K mg A) (G_check_site : FnOk P w K mg base (CX1 P w) 1 A.f_check_site A.fd_check_site ["board", "at"] (spSite A.C A.c_NoSite)) : FnOk P w K mg base (CX1 P w) 2 A.f_Bturn_to A.fd_Bturn_to ["self", "at", "place"] (spTurn A.C A.c_NoSite A.c_NoPlace) := by
  refine T.F_Bturn_to.okX sc_Bturn_to (fun vs H Q E h => ?_) (fun cdv A' outer s H vs Q E hr h => ?_)
  · obtain ⟨p, dx, aR, as, aT, aL, aS, b, z, y, rfl, _⟩ := h
    rfl
  · obtain ⟨p, dx, aR, as, aT, aL, aS, b, z, y, rfl, B, hl, z1, z2, y1, y2, q1, q2, q3⟩ := h
    refine ⟨_, (pss_cons (ps_expr (pe_call G_check_site (hr.mono (by decide)) (by rfl) T.m_check_site T.k_check_site T.b_check_site .nil passX (pa_cons (pv 0) (pa_cons (pv 1) pa_nil))))
      (pss_cons (ps_if (pt_not (pt_chain op_le op_lt pe_int (pv 2) (pe_callB (call_lenK (K := K) rfl) (by rfl) T.n_len PySem.boot_len (pa_cons (pe_ix (ix_listK (K := K) rfl) (pe_fldK (K := K) rfl (pv 0) rfl) (pv 1) (fun _ _ => rfl)) pa_nil))))
        (pss_one (ps_raise raises_cx rfl (by rfl) T.m_NoPlace T.x_NoPlace (pa_cons (pe_fs (pj_str (by decide +kernel) (pj_int (pv 1) (pj_str (by decide +kernel) (pj_int (pv 2) pj_nil)))) (by decide)) pa_nil)))
        pss_nil)
      (pss_one (ps_asg (pv 2) (pg_sub (pe_fldK (K := K) rfl (pv 0) rfl) (pv 1) set_list))))), ?_⟩
    have lg := log2_small z1 z2
    have lgy := log2_small y1 y2
    refine ⟨_, rfl, _, rfl, p, dx, aR, as, aT, aL, aS, b, z, rfl, B, z1, z2, fun hz => ?_, q1⟩
    obtain ⟨c, hat, hc, _⟩ := B.mat.at hz.1 hz.2
    have hlr : ((b.rows.getD z.toNat []).map V.int).length = (b.rows.getD z.toNat []).length := by simp
    refine ⟨_, rfl, _, _, rfl, rfl, _, rfl, ?_⟩
    by_cases h0 : 0 ≤ y
    · rw [decide_eq_true h0]
      refine iteT ?_
      refine ⟨_, rfl, p, A.C, dx, _, _, rfl, B.ob, T.cl_Board, T.na_rows, bf_rows _ _ _ _ _, _, rfl, _, _, _, _, rfl, rfl, B.mat.sq, hat, _, _, rfl, .inl (SqL.of hc), _, _, rfl, rfl, _, rfl, ?_⟩
      rw [hlr]
      by_cases h1 : y < ((b.rows.getD z.toNat []).length : Int)
      · rw [decide_eq_true h1]
        refine iteF ?_
        refine ⟨_, rfl, _, rfl, p, A.C, dx, _, _, rfl, B.ob, T.cl_Board, T.na_turns, bf_turns _ _ _ _ _, _, rfl, aT, _, _, _, rfl, rfl, B.hT, ixN_in hz.1 (by rw [List.length_map, hl]; exact hz.2), ?_⟩
        rw [map_set_int]
        exact q3 hz ⟨h0, h1⟩
      · rw [decide_eq_false h1]
        refine iteT ?_
        exact ⟨⟨_, rfl, _, rfl, lg, rfl, _, rfl, _, rfl, lgy, rfl, trivial⟩, fun x => ⟨small12 (by show 1 ≤ 100; decide), q2 hz (fun w => h1 w.2)⟩⟩
    · rw [decide_eq_false h0]
      refine iteF ?_
      refine ⟨_, rfl, ?_⟩
      refine iteT ?_
      exact ⟨⟨_, rfl, _, rfl, lg, rfl, _, rfl, _, rfl, lgy, rfl, trivial⟩, fun x => ⟨small12 (by show 1 ≤ 100; decide), q2 hz (fun w => h0 w.1)⟩⟩
theorem sc_Bload : FnScope ["self", "at", "many"] ["self", "at", "many"] (defScope s_Bload) := ⟨rfl, rfl, rfl, by decide +kernel, rfl, by decide +kernel, by decide +kernel⟩
theorem ok_Bload (T : Txt K mg A) (G_check_site : FnOk P w K mg base (CX1 P w) 1 A.f_check_site A.fd_check_site ["board", "at"] (spSite A.C A.c_NoSite)) : FnOk P w K mg base (CX1 P w) 2 A.f_Bload A.fd_Bload ["self", "at", "many"] (spLoad A.C A.c_NoSite A.c_TooMany) := by
  refine T.F_Bload.okX sc_Bload (fun vs H Q E h => ?_) (fun cdv A' outer s H vs Q E hr h => ?_)
  · obtain ⟨p, dx, aR, as, aT, aL, aS, b, z, y, rfl, _⟩ := h
    rfl
  · obtain ⟨p, dx, aR, as, aT, aL, aS, b, z, y, rfl, B, hl, z1, z2, q1, q2, q3⟩ := h
    refine ⟨_, (pss_cons (ps_expr (pe_call G_check_site (hr.mono (by decide)) (by rfl) T.m_check_site T.k_check_site T.b_check_site .nil passX (pa_cons (pv 0) (pa_cons (pv 1) pa_nil))))
      (pss_cons (ps_if (pt_cmpR op_gt (pe_op op_add (pe_callB (call_sumK (K := K) rfl rfl) (by rfl) T.n_sum PyProof.Rows.Boot.«sum» (pa_cons (pe_fldK (K := K) rfl (pv 0) rfl) pa_nil)) (pv 2)) (pe_glob (v := .int (400)) (by rfl) T.g_MOST_MARBLES ⟨_, rfl⟩) (nomark _))
        (pss_one (ps_raise raises_cx rfl (by rfl) T.m_TooMany T.x_TooMany (pa_cons (pe_fs (pj_str (by decide +kernel) (pj_int (pe_glob (v := .int (400)) (by rfl) T.g_MOST_MARBLES ⟨_, rfl⟩) (pj_str (by decide +kernel) pj_nil))) (by decide)) pa_nil)))
        pss_nil)
      (pss_one (ps_augS (pe_fldK (K := K) rfl (pv 0) rfl) (pv 1) (get_listK (K := K) rfl) (pv 2) ip_add set_list)))), ?_⟩
    refine ⟨_, rfl, _, rfl, p, dx, aR, as, aT, aL, aS, b, z, rfl, B, z1, z2, fun hz => ?_, q1⟩
    refine ⟨_, rfl, p, A.C, dx, _, _, rfl, B.ob, T.cl_Board, T.na_loads, bf_loads _ _ _ _ _, aL, b.loads, rfl, SqL.of B.hL, _, rfl, _, _, rfl, rfl, _, _, rfl, rfl, _, rfl, ?_⟩
    by_cases hs : (400 : Int) < b.loads.sum + y
    · rw [decide_eq_true hs]
      refine iteT ?_
      exact ⟨⟨_, rfl, by decide, rfl, trivial⟩, fun x => ⟨small12 (by show 1 ≤ 100; decide), q2 hz hs⟩⟩
    · rw [decide_eq_false hs]
      refine iteF ?_
      have hz' : z < (b.loads.length : Int) := by rw [hl]; exact hz.2
      refine ⟨_, rfl, p, A.C, dx, _, _, rfl, B.ob, T.cl_Board, T.na_loads, bf_loads _ _ _ _ _, _, rfl, _, _, _, _, rfl, rfl, SqL.of B.hL, at_ints hz.1 hz', _, rfl, _, _, rfl, rfl, aL, _, _, _, rfl, rfl, B.hL, ixN_in hz.1 (by rw [List.length_map]; exact hz'), ?_⟩
      rw [map_set_int]
      exact q3 hz (by (first | lia | omega))
theorem sc_turns_by : FnScope ["script", "rows"] ["script", "rows"] (defScope s_turns_by) := ⟨rfl, rfl, rfl, by decide +kernel, rfl, by decide +kernel, by decide +kernel⟩
theorem ok_turns_by (T : Txt K mg A) (G_drawn : FnOk P w K mg base CX0 1 A.f_drawn A.fd_drawn ["script", "k", "many"] (spDrawn K)) : FnOk P w K mg base CX0 2 A.f_turns_by A.fd_turns_by ["script", "rows"] (spTurns K) := by
  refine T.F_turns_by.ok sc_turns_by (fun vs H Q E h => ?_) (fun cdv A' outer s H vs Q E hr h => ?_)
  · obtain ⟨a, R, as, rows, ns, rfl, _⟩ := h
    rfl
  · obtain ⟨a, R, as, rows, ns, rfl, hS, M, W, q⟩ := h
    refine ⟨_, (pss_one (ps_ret (pe_comp (CompSc.of (N' := ["k", "script", "rows"]) (ix := [none, some 0, some 1]) rfl (by kernel_rfl)) rfl rfl rfl rfl (pi_range1 (by rfl) T.n_range (pa_cons (pe_callB (call_lenK (K := K) rfl) (by rfl) T.n_len PySem.boot_len (pa_cons (pv 1) pa_nil)) pa_nil)) (by exact fun _ _ _ _ _ => pf_nil) (by exact fun _ _ _ _ _ => (pe_call G_drawn (hr.mono (by decide)) (by rfl) T.m__law_drawn T.k__law_drawn T.b__law_drawn .nil pass0 (pa_cons (pv 1) (pa_cons (pe_op op_add pe_int (pv 0)) (pa_cons (pe_callB (call_lenK (K := K) rfl) (by rfl) T.n_len PySem.boot_len (pa_cons (pe_ix (ix_listK (K := K) rfl) (pv 2) (pv 0) (fun _ _ => rfl)) pa_nil)) pa_nil))))) (fun _ => rfl)))), ?_⟩
    obtain ⟨w1, w12, wr⟩ := id W
    have hl := M.reflen
    refine ⟨_, rfl, _, _, rfl, .inl M.sq, _, rfl, by (first | lia | omega), by (first | lia | omega), ?_⟩
    have en : (((as.map V.ref).length : Nat) : Int).toNat = rows.length := by rw [hl]; simp
    rw [en]
    refine comp_pure (ys := ((List.range rows.length).map fun (i : Nat) => drawn ns (260 + (0 + (i : Int))) ((rows.getD i []).length : Int)).map V.int) wk_range (by rw [List.length_map, List.length_range]; exact small12 (Nat.le_trans w12 (by decide))) (by simp) (fun j x y ex ey Q' q' => ?_) (fun D hD => ?_)
    · rw [List.getElem?_map] at ex ey
      rw [List.getElem?_map] at ey
      cases er : (List.range rows.length)[j]? with
      | none => rw [er] at ex; cases ex
      | some j' =>
        rw [er] at ex ey
        cases ex
        cases ey
        obtain ⟨hj1, hj2⟩ := List.getElem?_eq_some_iff.mp er
        rw [List.getElem_range] at hj2
        rw [List.length_range] at hj1
        subst hj2
        obtain ⟨c, hat, hc, _⟩ := M.at (z := 0 + (j : Int)) (by (first | lia | omega)) (by (first | lia | omega))
        have e1 : (0 + (j : Int)).toNat = j := by (first | lia | omega)
        rw [e1] at hc
        have hr1 : 1 ≤ (rows.getD j []).length := by rw [getD_get hj1]; exact (wr _ (List.getElem_mem hj1)).1
        have hlr : ((rows.getD j []).map V.int).length = (rows.getD j []).length := by simp
        refine ⟨_, rfl, _, rfl, _, _, rfl, rfl, _, rfl, _, rfl, _, _, _, _, rfl, rfl, M.sq, hat, _, _, rfl, .inl (SqL.of hc), a, ns, _, _, rfl, hS, by rw [hlr]; (first | lia | omega), by (first | lia | omega), by (first | lia | omega), ?_⟩
        rw [hlr]
        exact q'
    · refine q D _ hD ⟨by simp, fun i hi => ?_⟩
      have hr1 : 1 ≤ (rows.getD i []).length := by rw [getD_get hi]; exact (wr _ (List.getElem_mem hi)).1
      have eg : ((List.range rows.length).map fun (i : Nat) => drawn ns (260 + (0 + (i : Int))) ((rows.getD i []).length : Int)).getD i 0 = drawn ns (260 + (0 + (i : Int))) ((rows.getD i []).length : Int) := by
        rw [getD_get (by simpa using hi), List.getElem_map, List.getElem_range]
      rw [eg]
      exact ⟨drawn_nn _ _ (by (first | lia | omega)), drawn_lt _ _ (by (first | lia | omega))⟩
theorem sc_step : FnScope ["board", "at", "row", "way"] ["board", "at"] (defScope s_step) := ⟨rfl, rfl, rfl, by decide +kernel, rfl, by decide +kernel, by decide +kernel⟩
theorem ok_step (T : Txt K mg A) (G_check_site : FnOk P w K mg base (CX1 P w) 1 A.f_check_site A.fd_check_site ["board", "at"] (spSite A.C A.c_NoSite)) : FnOk P w K mg base (CX1 P w) 2 A.f_step A.fd_step ["board", "at"] (spStep A.C A.c_NoSite A.c_NoMarble) := by
  refine T.F_step.okX sc_step (fun vs H Q E h => ?_) (fun cdv A' outer s H vs Q E hr h => ?_)
  · obtain ⟨p, dx, aR, as, aT, aL, aS, b, z, rfl, _⟩ := h
    rfl
  · obtain ⟨p, dx, aR, as, aT, aL, aS, b, z, rfl, B, O, z1, z2, q1, q2, q3⟩ := h
    refine ⟨_, (pss_cons (ps_expr (pe_call G_check_site (hr.mono (by decide)) (by rfl) T.m_check_site T.k_check_site T.b_check_site .nil passX (pa_cons (pv 0) (pa_cons (pv 1) pa_nil))))
      (pss_cons (ps_if (pt_cmpR op_lt (pe_ix (ix_listK (K := K) rfl) (pe_fldK (K := K) rfl (pv 0) rfl) (pv 1) (fun _ _ => rfl)) pe_int (nomark _))
        (pss_one (ps_raise raises_cx rfl (by rfl) T.m_NoMarble T.x_NoMarble (pa_cons (pe_fs (pj_str (by decide +kernel) (pj_int (pv 1) pj_nil)) (by decide)) pa_nil)))
        pss_nil)
      (pss_cons (ps_set (i := 2) sc_step.nd rfl (Or.inl rfl) (pe_ix (ix_listK (K := K) rfl) (pe_fldK (K := K) rfl (pv 0) rfl) (pv 1) (fun _ _ => rfl)))
      (pss_cons (ps_set (i := 3) sc_step.nd rfl (Or.inl rfl) (pe_ix (ix_listK (K := K) rfl) (pv 2) (pe_ix (ix_listK (K := K) rfl) (pe_fldK (K := K) rfl (pv 0) rfl) (pv 1) (fun _ _ => rfl)) (fun _ _ => rfl)))
      (pss_cons (ps_augS (pe_fldK (K := K) rfl (pv 0) rfl) (pv 1) (get_listK (K := K) rfl) pe_int ip_sub set_list)
      (pss_cons (ps_if (pt_cmpR op_eq (pv 3) (pe_glob (v := .int (-1)) (by rfl) T.g_PIT ⟨_, rfl⟩) (nomark _))
        (pss_one (ps_fldaug (pv 0) pe_int in_add))
        (pss_one (ps_augS (pe_fldK (K := K) rfl (pv 0) rfl) (pv 3) (get_listK (K := K) rfl) pe_int ip_add set_list)))
      (pss_cons (ps_asg (pe_op op_mod (pe_op op_add (pe_ix (ix_listK (K := K) rfl) (pe_fldK (K := K) rfl (pv 0) rfl) (pv 1) (fun _ _ => rfl)) pe_int) (pe_callB (call_lenK (K := K) rfl) (by rfl) T.n_len PySem.boot_len (pa_cons (pv 2) pa_nil))) (pg_sub (pe_fldK (K := K) rfl (pv 0) rfl) (pv 1) set_list))
      (pss_cons (ps_augS (pe_fldK (K := K) rfl (pv 0) rfl) (pv 1) (get_listK (K := K) rfl) pe_int ip_add set_list)
      (pss_one (ps_ret (pv 3))))))))))), ?_⟩
    have lg := log2_small z1 z2
    refine ⟨_, rfl, _, rfl, p, dx, aR, as, aT, aL, aS, b, z, rfl, B, z1, z2, fun hz => ?_, q1⟩
    have z0 := hz.1
    have hs : z.toNat < b.rows.length := by (first | lia | omega)
    obtain ⟨t0, t1⟩ := O.T.2 z.toNat hs
    obtain ⟨x0, x1⟩ := exit_in O.W O.T hs
    obtain ⟨c, hat, hc, hca⟩ := B.mat.at hz.1 hz.2
    have hlr : ((b.rows.getD z.toNat []).map V.int).length = (b.rows.getD z.toNat []).length := by simp
    have hr' := row_len O.W hs
    have zl : z < (b.loads.length : Int) := by rw [O.L]; exact hz.2
    have zt : z < (b.turns.length : Int) := by rw [O.T.1]; exact hz.2
    have zs : z < (b.steps.length : Int) := by rw [O.S]; exact hz.2
    refine ⟨_, rfl, p, A.C, dx, _, _, rfl, B.ob, T.cl_Board, T.na_loads, bf_loads _ _ _ _ _, _, rfl, _, _, _, _, rfl, rfl, SqL.of B.hL, at_ints z0 zl, _, _, rfl, rfl, _, rfl, ?_⟩
    by_cases h1 : b.loads.getD z.toNat 0 < 1
    · rw [decide_eq_true h1]
      refine iteT ?_
      exact ⟨⟨_, rfl, _, rfl, lg, rfl, trivial⟩, fun x => ⟨small12 (by show 1 ≤ 100; decide), q2 hz h1⟩⟩
    rw [decide_eq_false h1]
    refine iteF ?_
    have h1' : 1 ≤ b.loads.getD z.toNat 0 := by (first | lia | omega)
    refine ⟨_, rfl, p, A.C, dx, _, _, rfl, B.ob, T.cl_Board, T.na_rows, bf_rows _ _ _ _ _, _, rfl, _, _, _, _, rfl, rfl, B.mat.sq, hat, ?_⟩
    refine ⟨_, rfl, _, rfl, p, A.C, dx, _, _, rfl, B.ob, T.cl_Board, T.na_turns, bf_turns _ _ _ _ _, _, rfl, _, _, _, _, rfl, rfl, SqL.of B.hT, at_ints z0 zt, _, _, _, _, rfl, rfl, SqL.of hc, at_ints t0 t1, ?_⟩
    rw [show (b.rows.getD z.toNat []).getD (b.turns.getD z.toNat 0).toNat 0 = exitOf b.rows b.turns z.toNat from rfl]
    generalize hg : exitOf b.rows b.turns z.toNat = g at x0 x1 q3
    refine ⟨_, rfl, p, A.C, dx, _, _, rfl, B.ob, T.cl_Board, T.na_loads, bf_loads _ _ _ _ _, _, rfl, _, _, _, _, rfl, rfl, SqL.of B.hL, at_ints z0 zl, _, _, rfl, rfl, aL, _, _, _, rfl, rfl, B.hL, ixN_in z0 (by rw [List.length_map]; exact zl), ?_⟩
    rw [map_set_int]
    have B1 := B.setL (b.loads.set z.toNat (b.loads.getD z.toNat 0 - 1))
    have f1 : ∀ x, x ∉ p :: aT :: aL :: aS :: aR :: as → (upd H aL (.lst ((b.loads.set z.toNat (b.loads.getD z.toNat 0 - 1)).map V.int))) x = H x := fun x hx => upd_ne (fun y => hx (by rw [y]; simp))
    generalize upd H aL (.lst ((b.loads.set z.toNat (b.loads.getD z.toNat 0 - 1)).map V.int)) = H1 at B1 f1
    dsimp only [gName]
    refine seq_mk' (fun σ' H' => σ' = [some (.ref p), some (.int z), some (.ref c), some (.int g)] ∧ BoardAt A.C H' p dx aR as aT aL aS { b with loads := moveL b.loads z.toNat g, taken := moveT b.taken g } ∧ ∀ x, x ∉ p :: aT :: aL :: aS :: aR :: as → H' x = H x) ?rest (fun D1 rest => ?way)
    case way =>
      refine ⟨_, rfl, rfl, _, rfl, ?_⟩
      by_cases hp : g = -1
      · subst hp
        refine iteT ?_
        refine ⟨_, rfl, p, A.C, dx, _, _, rfl, B1.ob, T.cl_Board, T.na_taken, bf_taken _ _ _ _ _, _, _, rfl, rfl, dx, _, B1.ob, (by show 5 < 1000; decide), ?_⟩
        rw [putF_taken]
        exact rest _ _ ⟨rfl, B1.setP _, fun x hx => by rw [upd_ne (fun y => hx (by rw [y]; simp))]; exact f1 x hx⟩
      · have e : decide (V.int g = V.int (-1)) = false := decide_eq_false (fun w => hp (by injection w))
        rw [e]
        refine iteF ?_
        have gl : g < ((b.loads.set z.toNat (b.loads.getD z.toNat 0 - 1)).length : Int) := by rw [List.length_set, O.L]; exact x1
        have g0 : 0 ≤ g := by (first | lia | omega)
        refine ⟨_, rfl, p, A.C, dx, _, _, rfl, B1.ob, T.cl_Board, T.na_loads, bf_loads _ _ _ _ _, _, rfl, _, _, _, _, rfl, rfl, SqL.of B1.hL, at_ints g0 gl, _, _, rfl, rfl, aL, _, _, _, rfl, rfl, B1.hL, ixN_in g0 (by rw [List.length_map]; exact gl), ?_⟩
        rw [map_set_int]
        have B2 := B1.setL ((b.loads.set z.toNat (b.loads.getD z.toNat 0 - 1)).set g.toNat ((b.loads.set z.toNat (b.loads.getD z.toNat 0 - 1)).getD g.toNat 0 + 1))
        refine rest _ _ ⟨rfl, ?_, fun x hx => by rw [upd_ne (fun y => hx (by rw [y]; simp))]; exact f1 x hx⟩
        have e1 : moveL b.loads z.toNat g = (b.loads.set z.toNat (b.loads.getD z.toNat 0 - 1)).set g.toNat ((b.loads.set z.toNat (b.loads.getD z.toNat 0 - 1)).getD g.toNat 0 + 1) := by unfold moveL; rw [if_neg hp]
        have e2 : moveT b.taken g = b.taken := by unfold moveT; rw [if_neg hp]
        rw [e1, e2]
        exact B2
    rintro σ' H' ⟨rfl, B2, f2⟩
    obtain ⟨c2, hat2, hc2, hca2⟩ := B2.mat.at (z := z) hz.1 hz.2
    rw [hca] at hca2
    cases hca2
    refine ⟨_, rfl, p, A.C, dx, _, _, rfl, B2.ob, T.cl_Board, T.na_turns, bf_turns _ _ _ _ _, _, rfl, _, _, _, _, rfl, rfl, SqL.of B2.hT, at_ints z0 zt, _, _, rfl, rfl, _, rfl, _, _, rfl, .inl (SqL.of hc2), _, _, rfl, rfl, by rw [hlr]; (first | lia | omega), _, rfl, p, A.C, dx, _, _, rfl, B2.ob, T.cl_Board, T.na_turns, bf_turns _ _ _ _ _, _, rfl, aT, _, _, _, rfl, rfl, B2.hT, ixN_in z0 (by rw [List.length_map]; exact zt), ?_⟩
    rw [hlr, map_set_int]
    have B3 := B2.setT (b.turns.set z.toNat ((b.turns.getD z.toNat 0 + 1) % ((b.rows.getD z.toNat []).length : Int)))
    refine ⟨_, rfl, p, A.C, dx, _, _, rfl, B3.ob, T.cl_Board, T.na_steps, bf_steps _ _ _ _ _, _, rfl, _, _, _, _, rfl, rfl, SqL.of B3.hS, at_ints z0 zs, _, _, rfl, rfl, aS, _, _, _, rfl, rfl, B3.hS, ixN_in z0 (by rw [List.length_map]; exact zs), ?_⟩
    rw [map_set_int]
    have B4 := B3.setS (b.steps.set z.toNat (b.steps.getD z.toNat 0 + 1))
    refine ⟨_, rfl, q3 hz h1' _ ?_ fun x hx => ?_⟩
    · have e : stepB b z.toNat = ⟨b.rows, b.turns.set z.toNat ((b.turns.getD z.toNat 0 + 1) % ((b.rows.getD z.toNat []).length : Int)), moveL b.loads z.toNat g, b.steps.set z.toNat (b.steps.getD z.toNat 0 + 1), moveT b.taken g⟩ := by rw [← hg]; rfl
      rw [e]
      exact B4
    · rw [upd_ne (fun y => hx (by rw [y]; simp)), upd_ne (fun y => hx (by rw [y]; simp))]
      exact f2 x hx
theorem sc_step_by : FnScope ["rows", "turns", "lying", "counts", "at", "gone"] ["rows", "turns", "lying", "counts", "at"] (defScope s_step_by) := ⟨rfl, rfl, rfl, by decide +kernel, rfl, by decide +kernel, by decide +kernel⟩
theorem ok_step_by (T : Txt K mg A) : FnOk P w K mg base CX0 1 A.f_step_by A.fd_step_by ["rows", "turns", "lying", "counts", "at"] spStepBy := by
  refine T.F_step_by.ok sc_step_by (fun vs H Q E h => ?_) (fun cdv A' outer s H vs Q E hr h => ?_)
  · obtain ⟨R, as, tA, lA, cA, b, z, rfl, _⟩ := h
    rfl
  · obtain ⟨R, as, tA, lA, cA, b, z, rfl, S, O, z0, z1, q⟩ := h
    refine ⟨_, (pss_cons (ps_set (i := 5) sc_step_by.nd rfl (Or.inl rfl) (pe_ix (ix_listK (K := K) rfl) (pe_ix (ix_listK (K := K) rfl) (pv 0) (pv 4) (fun _ _ => rfl)) (pe_ix (ix_listK (K := K) rfl) (pv 1) (pv 4) (fun _ _ => rfl)) (fun _ _ => rfl)))
      (pss_cons (ps_asg (pe_op op_sub (pe_ix (ix_listK (K := K) rfl) (pv 2) (pv 4) (fun _ _ => rfl)) pe_int) (pg_sub (pv 2) (pv 4) set_list))
      (pss_cons (ps_asg (pe_op op_add (pe_ix (ix_listK (K := K) rfl) (pv 2) (pv 5) (fun _ _ => rfl)) pe_int) (pg_sub (pv 2) (pv 5) set_list))
      (pss_cons (ps_asg (pe_op op_mod (pe_op op_add (pe_ix (ix_listK (K := K) rfl) (pv 1) (pv 4) (fun _ _ => rfl)) pe_int) (pe_callB (call_lenK (K := K) rfl) (by rfl) T.n_len PySem.boot_len (pa_cons (pe_ix (ix_listK (K := K) rfl) (pv 0) (pv 4) (fun _ _ => rfl)) pa_nil))) (pg_sub (pv 1) (pv 4) set_list))
      (pss_one (ps_asg (pe_op op_add (pe_ix (ix_listK (K := K) rfl) (pv 3) (pv 4) (fun _ _ => rfl)) pe_int) (pg_sub (pv 3) (pv 4) set_list))))))), ?_⟩
    have hs : z.toNat < b.rows.length := by (first | lia | omega)
    obtain ⟨t0, t1⟩ := O.T.2 z.toNat hs
    obtain ⟨x0, x1⟩ := exit_in O.W O.T hs
    obtain ⟨c, hat, hc, hca⟩ := S.M.at z0 z1
    have hlr : ((b.rows.getD z.toNat []).map V.int).length = (b.rows.getD z.toNat []).length := by simp
    have hr' := row_len O.W hs
    have zl : z < (b.loads.length : Int) := by rw [O.L]; exact z1
    have zt : z < (b.turns.length : Int) := by rw [O.T.1]; exact z1
    have zs : z < (b.steps.length : Int) := by rw [O.S]; exact z1
    refine ⟨_, rfl, _, rfl, _, _, _, _, rfl, rfl, S.M.sq, hat, _, rfl, _, rfl, _, _, _, _, rfl, rfl, SqL.of S.t, at_ints z0 zt, _, _, _, _, rfl, rfl, SqL.of hc, at_ints t0 t1, ?_⟩
    rw [show (b.rows.getD z.toNat []).getD (b.turns.getD z.toNat 0).toNat 0 = exitOf b.rows b.turns z.toNat from rfl]
    generalize hg : exitOf b.rows b.turns z.toNat = g at x0 x1
    -- lying
    refine ⟨_, rfl, _, rfl, _, _, _, _, rfl, rfl, SqL.of S.l, at_app z0 zl, _, _, rfl, rfl, _, rfl, _, rfl, lA, _, _, _, rfl, rfl, S.l, ixN_in z0 (by rw [List.length_map, List.length_append, List.length_singleton]; (first | lia | omega)), ?_⟩
    rw [map_set_int, List.set_append_left _ _ (show z.toNat < b.loads.length by (first | lia | omega))]
    obtain ⟨j, x, hj, hx, hset⟩ := gone_set (l1 := b.loads.set z.toNat (b.loads.getD z.toNat 0 - 1)) (t := b.taken) (g := g) x0 (by rw [List.length_set, O.L]; exact x1)
    refine ⟨_, rfl, _, rfl, _, _, _, _, rfl, rfl, SqL.of upd_same, hx, _, _, rfl, rfl, _, rfl, _, rfl, lA, _, _, _, rfl, rfl, upd_same, hj, ?_⟩
    rw [map_set_int, hset, upd_upd]
    have el : (if g = -1 then b.loads.set z.toNat (b.loads.getD z.toNat 0 - 1) else (b.loads.set z.toNat (b.loads.getD z.toNat 0 - 1)).set g.toNat ((b.loads.set z.toNat (b.loads.getD z.toNat 0 - 1)).getD g.toNat 0 + 1)) ++ [if g = -1 then b.taken + 1 else b.taken] = (stepB b z.toNat).loads ++ [(stepB b z.toNat).taken] := by
      show _ = moveL b.loads z.toNat (exitOf b.rows b.turns z.toNat) ++ [moveT b.taken (exitOf b.rows b.turns z.toNat)]
      rw [hg]
      rfl
    rw [el]
    have nl := S.nR lA (by simp)
    have nt := S.nR tA (by simp)
    have nc := S.nR cA (by simp)
    have M1 : Mat (upd H lA (.lst (((stepB b z.toNat).loads ++ [(stepB b z.toNat).taken]).map V.int))) R as b.rows := S.M.upd nl
    have t1' : (upd H lA (.lst (((stepB b z.toNat).loads ++ [(stepB b z.toNat).taken]).map V.int))) tA = some (.lst (b.turns.map V.int)) := by rw [upd_ne S.tl]; exact S.t
    have c1' : (upd H lA (.lst (((stepB b z.toNat).loads ++ [(stepB b z.toNat).taken]).map V.int))) cA = some (.lst (b.steps.map V.int)) := by rw [upd_ne (Ne.symm S.lc)]; exact S.c
    have l1' : (upd H lA (.lst (((stepB b z.toNat).loads ++ [(stepB b z.toNat).taken]).map V.int))) lA = some (.lst (((stepB b z.toNat).loads ++ [(stepB b z.toNat).taken]).map V.int)) := upd_same
    have f1 : ∀ x, x ∉ tA :: lA :: cA :: R :: as → (upd H lA (.lst (((stepB b z.toNat).loads ++ [(stepB b z.toNat).taken]).map V.int))) x = H x := fun x hx => upd_ne (fun y => hx (by rw [y]; simp))
    generalize upd H lA (.lst (((stepB b z.toNat).loads ++ [(stepB b z.toNat).taken]).map V.int)) = H1 at M1 t1' c1' l1' f1
    obtain ⟨c2, hat2, hc2, _⟩ := M1.at z0 z1
    refine ⟨_, rfl, _, rfl, _, _, _, _, rfl, rfl, SqL.of t1', at_ints z0 zt, _, _, rfl, rfl, _, rfl, _, rfl, _, _, _, _, rfl, rfl, M1.sq, hat2, _, _, rfl, .inl (SqL.of hc2), _, _, rfl, rfl, by rw [hlr]; (first | lia | omega), _, rfl, _, rfl, tA, _, _, _, rfl, rfl, t1', ixN_in z0 (by rw [List.length_map]; exact zt), ?_⟩
    rw [hlr, map_set_int]
    refine ⟨_, rfl, _, rfl, _, _, _, _, rfl, rfl, SqL.of (by rw [upd_ne (Ne.symm S.tc)]; exact c1'), at_ints z0 zs, _, _, rfl, rfl, _, rfl, _, rfl, cA, _, _, _, rfl, rfl, by rw [upd_ne (Ne.symm S.tc)]; exact c1', ixN_in z0 (by rw [List.length_map]; exact zs), ?_⟩
    rw [map_set_int]
    refine q _ ⟨(M1.upd nt).upd nc, by rw [upd_ne S.tc, upd_same]; rfl, by rw [upd_ne S.lc, upd_ne (Ne.symm S.tl)]; exact l1', upd_same, S.tl, S.tc, S.lc, S.nR⟩ fun x hx => ?_
    rw [upd_ne (fun y => hx (by rw [y]; simp)), upd_ne (fun y => hx (by rw [y]; simp))]
    exact f1 x hx
theorem sc_law : FnScope ["script", "rows", "turns", "lying", "counts", "due", "board", "shown", "other", "kept", "k", "laden"] ["script"] (defScope s_law) := ⟨rfl, rfl, rfl, by decide +kernel, rfl, by decide +kernel, by decide +kernel⟩
theorem ok_law (T : Txt K mg A) (G_drawn : FnOk P w K mg base CX0 1 A.f_drawn A.fd_drawn ["script", "k", "many"] (spDrawn K)) (G_rows_by : FnOk P w K mg base CX0 3 A.f_rows_by A.fd_rows_by ["script"] (spRowsT K)) (G_turns_by : FnOk P w K mg base CX0 2 A.f_turns_by A.fd_turns_by ["script", "rows"] (spTurns K)) (G_number_by : FnOk P w K mg base CX0 2 A.f_number_by A.fd_number_by ["script", "k"] (spNumBy K)) (G_shown : FnOk P w K mg base CX0 2 A.f_shown A.fd_shown ["rows", "turns", "lying", "counts"] (spShw K)) (G_read : FnOk P w K mg base CX0 6 A.f_read A.fd_read ["text"] (spRead A.C)) (G_stands : FnOk P w K mg base CX0 3 A.f_stands A.fd_stands ["board", "rows", "turns", "lying", "counts"] (spStands K A.C)) (G_written : FnOk P w K mg base CX0 3 A.f_written A.fd_written ["board"] (spWrit A.C)) (G_step : FnOk P w K mg base (CX1 P w) 2 A.f_step A.fd_step ["board", "at"] (spStep A.C A.c_NoSite A.c_NoMarble)) (G_step_by : FnOk P w K mg base CX0 1 A.f_step_by A.fd_step_by ["rows", "turns", "lying", "counts", "at"] spStepBy) (G_load : FnOk P w K mg base (CX1 P w) 2 A.f_Bload A.fd_Bload ["self", "at", "many"] (spLoad A.C A.c_NoSite A.c_TooMany)) (G_turn_to : FnOk P w K mg base (CX1 P w) 2 A.f_Bturn_to A.fd_Bturn_to ["self", "at", "place"] (spTurn A.C A.c_NoSite A.c_NoPlace)) : FnOk P w K mg base CX0 8 A.f_law A.fd_law ["script"] (spLaw K) := by
  refine T.F_law.ok sc_law (fun vs H Q E h => ?_) (fun cdv A' outer s H vs Q E hr h => ?_)
  · obtain ⟨a, ns, rfl, _⟩ := h
    rfl
  · obtain ⟨a, ns, rfl, hS, hlen, q⟩ := h
    refine ⟨_, (pss_cons (ps_set (i := 1) sc_law.nd rfl (Or.inl rfl) (pe_call G_rows_by (hr.mono (by decide)) (by rfl) T.m__law_rows_by T.k__law_rows_by T.b__law_rows_by .nil pass0 (pa_cons (pv 0) pa_nil)))
      (pss_cons (ps_set (i := 2) sc_law.nd rfl (Or.inl rfl) (pe_call G_turns_by (hr.mono (by decide)) (by rfl) T.m__law_turns_by T.k__law_turns_by T.b__law_turns_by .nil pass0 (pa_cons (pv 0) (pa_cons (pv 1) pa_nil))))
      (pss_cons (ps_set (i := 3) sc_law.nd rfl (Or.inr rfl) (pe_op op_cat (pe_comp (CompSc.of (N' := ["k", "script"]) (ix := [none, some 0]) rfl (by kernel_rfl)) rfl rfl rfl rfl (pi_range1 (by rfl) T.n_range (pa_cons (pe_callB (call_lenK (K := K) rfl) (by rfl) T.n_len PySem.boot_len (pa_cons (pv 1) pa_nil)) pa_nil)) (by exact fun _ _ _ _ _ => pf_nil) (by exact fun _ _ _ _ _ => (pe_call G_drawn (hr.mono (by decide)) (by rfl) T.m__law_drawn T.k__law_drawn T.b__law_drawn .nil pass0 (pa_cons (pv 1) (pa_cons (pe_op op_add pe_int (pv 0)) (pa_cons pe_int pa_nil))))) (fun _ => rfl)) (pe_lst (pa_cons (pe_call G_number_by (hr.mono (by decide)) (by rfl) T.m__law_number_by T.k__law_number_by T.b__law_number_by .nil pass0 (pa_cons (pv 0) (pa_cons pe_int pa_nil))) pa_nil))))
      (pss_cons (ps_set (i := 4) sc_law.nd rfl (Or.inr rfl) (pe_comp (CompSc.of (N' := ["k", "script"]) (ix := [none, some 0]) rfl (by kernel_rfl)) rfl rfl rfl rfl (pi_range1 (by rfl) T.n_range (pa_cons (pe_callB (call_lenK (K := K) rfl) (by rfl) T.n_len PySem.boot_len (pa_cons (pv 1) pa_nil)) pa_nil)) (by exact fun _ _ _ _ _ => pf_nil) (by exact fun _ _ _ _ _ => (pe_call G_number_by (hr.mono (by decide)) (by rfl) T.m__law_number_by T.k__law_number_by T.b__law_number_by .nil pass0 (pa_cons (pv 1) (pa_cons (pv 0) pa_nil)))) (fun _ => rfl)))
      (pss_cons (ps_set (i := 5) sc_law.nd rfl (Or.inl rfl) (pe_call G_shown (hr.mono (by decide)) (by rfl) T.m__law_shown T.k__law_shown T.b__law_shown .nil pass0 (pa_cons (pv 1) (pa_cons (pv 2) (pa_cons (pv 3) (pa_cons (pv 4) pa_nil))))))
      (pss_cons (ps_set (i := 6) sc_law.nd rfl (Or.inl rfl) (pe_call G_read (hr.mono (by decide)) (by rfl) T.m_read T.k_read T.b_read .nil pass0 (pa_cons (pv 5) pa_nil)))
      (pss_cons (ps_if (PW.pt (pw_or (pt_not (pt_val (pe_callB (call_isiK (K := K) rfl) (by rfl) T.n_isinstance PyProof.Rows.Boot.«isinstance» (pa_cons (pv 6) (pa_cons (pe_glob (v := .ref _) (by rfl) T.m_Board rfl) pa_nil))))) (pw_or1 (pt_not (pt_val (pe_call G_stands (hr.mono (by decide)) (by rfl) T.m__law_stands T.k__law_stands T.b__law_stands .nil pass0 (pa_cons (pv 6) (pa_cons (pv 1) (pa_cons (pv 2) (pa_cons (pv 3) (pa_cons (pv 4) pa_nil)))))))))))
        (pss_one (ps_ret pe_bl))
        pss_nil)
      (pss_cons (ps_set (i := 7) sc_law.nd rfl (Or.inl rfl) (pe_call G_written (hr.mono (by decide)) (by rfl) T.m_written T.k_written T.b_written .nil pass0 (pa_cons (pv 6) pa_nil)))
      (pss_cons (ps_if (PW.pt (pw_or (pt_not (pt_val (pe_callB (call_isiK (K := K) rfl) (by rfl) T.n_isinstance PyProof.Rows.Boot.«isinstance» (pa_cons (pv 7) (pa_cons (pe_bltn (v := .ty "str") (by rfl) T.n_str PyProof.Rows.Boot.«str» rfl) pa_nil))))) (pw_or1 (pt_cmpR op_ne (pv 7) (pv 5) (nomark _)))))
        (pss_one (ps_ret pe_bl))
        pss_nil)
      (pss_cons (ps_set (i := 8) sc_law.nd rfl (Or.inl rfl) (pe_call G_read (hr.mono (by decide)) (by rfl) T.m_read T.k_read T.b_read .nil pass0 (pa_cons (pv 7) pa_nil)))
      (pss_cons (ps_set (i := 9) sc_law.nd rfl (Or.inl rfl) (pe_lst (pa_cons (pe_callTy (call_listK (K := K) rfl) (by rfl) T.n_list PyProof.Rows.Boot.«list» (pa_cons (pv 2) pa_nil)) (pa_cons (pe_callTy (call_listK (K := K) rfl) (by rfl) T.n_list PyProof.Rows.Boot.«list» (pa_cons (pv 3) pa_nil)) (pa_cons (pe_callTy (call_listK (K := K) rfl) (by rfl) T.n_list PyProof.Rows.Boot.«list» (pa_cons (pv 4) pa_nil)) pa_nil)))))
      (pss_cons (ps_for PassesOwn.never rfl (pi_range1 (by rfl) T.n_range (pa_cons pe_int pa_nil)) (pg_name (i := 10) sc_law.nd rfl (Or.inl rfl))
        (pss_cons (ps_setComp (i := 11) sc_law.nd rfl rfl (CompSc.of (N' := ["at", "lying", "counts"]) (ix := [none, some 3, some 4]) rfl (by kernel_rfl)) rfl rfl rfl rfl (pi_range1 (by rfl) T.n_range (pa_cons (pe_callB (call_lenK (K := K) rfl) (by rfl) T.n_len PySem.boot_len (pa_cons (pv 1) pa_nil)) pa_nil)) (by exact fun _ _ _ _ _ => (pf_one (PW.pt (pw_and (pt_cmpR op_gt (pe_ix (ix_listK (K := K) rfl) (pv 1) (pv 0) (fun _ _ => rfl)) pe_int (nomark _)) (pw_and1 (pt_cmpR op_lt (pe_callB (call_max2 rfl) (by rfl) T.n_max PyProof.Rows.Boot.«max» (pa_cons (pe_ix (ix_listK (K := K) rfl) (pv 2) (pv 0) (fun _ _ => rfl)) (pa_cons (pe_ix (ix_listK (K := K) rfl) (pv 1) (pe_un un_neg pe_int) (fun _ _ => rfl)) pa_nil))) (pe_op op_pow pe_int pe_int) (nomark _))))))) (by exact fun _ _ _ _ _ => (pv 0)))
        (pss_one (ps_if (pt_cmpR op_gt (pe_callB (call_lenK (K := K) rfl) (by rfl) T.n_len PySem.boot_len (pa_cons (pv 11) pa_nil)) pe_int (nomark _))
          (pss_cons (ps_expr (pe_call G_step (hr.mono (by decide)) (by rfl) T.m_step T.k_step T.b_step .nil passE0 (pa_cons (pv 6) (pa_cons (pe_ix (ix_listK (K := K) rfl) (pv 11) pe_int (fun _ _ => rfl)) pa_nil))))
          (pss_one (ps_expr (pe_call G_step_by (hr.mono (by decide)) (by rfl) T.m__law_step_by T.k__law_step_by T.b__law_step_by .nil pass0 (pa_cons (pv 1) (pa_cons (pv 2) (pa_cons (pv 3) (pa_cons (pv 4) (pa_cons (pe_ix (ix_listK (K := K) rfl) (pv 11) pe_int (fun _ _ => rfl)) pa_nil)))))))))
          pss_nil))))
      (pss_cons (ps_if (pt_not (pt_val (pe_call G_stands (hr.mono (by decide)) (by rfl) T.m__law_stands T.k__law_stands T.b__law_stands .nil pass0 (pa_cons (pv 6) (pa_cons (pv 1) (pa_cons (pv 2) (pa_cons (pv 3) (pa_cons (pv 4) pa_nil))))))))
        (pss_one (ps_ret pe_bl))
        pss_nil)
      (pss_cons (ps_expr (pe_meth (pv 6) T.cl_Board T.mt_load G_load (hr.mono (by decide)) T.bm_load .nil passE0 (pa_cons pe_int (pa_cons pe_int pa_nil))))
      (pss_cons (ps_expr (pe_meth (pv 6) T.cl_Board T.mt_turn_to G_turn_to (hr.mono (by decide)) T.bm_turn_to .nil passE0 (pa_cons pe_int (pa_cons (pe_op op_sub (pe_callB (call_lenK (K := K) rfl) (by rfl) T.n_len PySem.boot_len (pa_cons (pe_ix (ix_listK (K := K) rfl) (pv 1) pe_int (fun _ _ => rfl)) pa_nil)) pe_int) pa_nil))))
      (pss_one (ps_ret (pe_and (pe_callB (call_isiK (K := K) rfl) (by rfl) T.n_isinstance PyProof.Rows.Boot.«isinstance» (pa_cons (pv 8) (pa_cons (pe_glob (v := .ref _) (by rfl) T.m_Board rfl) pa_nil))) (pe_one (pe_call G_stands (hr.mono (by decide)) (by rfl) T.m__law_stands T.k__law_stands T.b__law_stands .nil pass0 (pa_cons (pv 8) (pa_cons (pv 1) (pa_cons (pe_ix (ix_listK (K := K) rfl) (pv 9) pe_int (fun _ _ => rfl)) (pa_cons (pe_ix (ix_listK (K := K) rfl) (pv 9) pe_int (fun _ _ => rfl)) (pa_cons (pe_ix (ix_listK (K := K) rfl) (pv 9) pe_int (fun _ _ => rfl)) pa_nil))))))))))))))))))))))))), ?_⟩
    refine ⟨_, rfl, a, ns, rfl, hS, fun R as rows H1 W op tm M s1 fr1 => ?_⟩
    have hl := M.reflen
    obtain ⟨w1, w12, wr⟩ := id W
    refine ⟨_, rfl, _, rfl, a, R, as, rows, ns, rfl, s1.seq hS, M, W, fun tA ts htA hts => ?_⟩
    have s2 : Same H1 (upd H1 tA (.lst (ts.map V.int))) := same_new htA
    have eT : upd H1 tA (.lst (ts.map V.int)) tA = some (.lst (ts.map V.int)) := upd_same
    generalize upd H1 tA (.lst (ts.map V.int)) = H2 at s2 eT
    have M2 := M.same s2
    have s02 := s1.trans s2
    have ntA := mat_no M htA
    have frL : ∀ x ∈ tA :: R :: as, H x = none := fun x hx => by
      rcases List.mem_cons.mp hx with y | y
      · rw [y]; exact s1.free htA
      · exact fr1 x y
    -- lying
    refine ⟨_, rfl, _, _, rfl, .inl M2.sq, _, rfl, by (first | lia | omega), by (first | lia | omega), ?_⟩
    have en : (((as.map V.ref).length : Nat) : Int).toNat = rows.length := by rw [hl]; simp
    rw [en]
    refine comp_pure (ys := (lsBy ns rows.length).map V.int) wk_range (by rw [List.length_map, List.length_range]; exact small12 (by (first | lia | omega))) (by simp [lsBy]) (fun j x y ex ey Q' q' => ?_) (fun lA hlA => ?_)
    · unfold lsBy at ey
      rw [List.getElem?_map] at ex ey
      rw [List.getElem?_map] at ey
      cases er : (List.range rows.length)[j]? with
      | none => rw [er] at ex; cases ex
      | some j' =>
        rw [er] at ex ey
        cases ex
        cases ey
        have hj1 := (List.getElem?_eq_some_iff.mp er).1
        obtain ⟨_, hj2⟩ := List.getElem?_eq_some_iff.mp er
        rw [List.getElem_range] at hj2
        rw [List.length_range] at hj1
        subst hj2
        exact ⟨_, rfl, _, rfl, _, _, rfl, rfl, a, ns, _, 34, rfl, s02.seq hS, by decide, by (first | lia | omega), by (first | lia | omega), q'⟩
    have hll := lsBy_len ns rows.length
    have hnn := lsBy_nn ns rows.length
    have hsum := lsBy_sum ns w12
    generalize lsBy ns rows.length = ls at hll hnn hsum
    have s3 : Same H2 (upd H2 lA (.lst (ls.map V.int))) := same_new hlA
    have eL : (upd H2 lA (.lst (ls.map V.int))) lA = some (.lst (ls.map V.int)) := upd_same
    generalize upd H2 lA (.lst (ls.map V.int)) = H3 at s3 eL
    refine ⟨_, rfl, a, ns, 30, rfl, (s02.trans s3).seq hS, by decide, by decide, fun wn H3b Nw s3b => ?_⟩
    refine ⟨small12 (by show 1 ≤ 100; decide), fun l3 hl3 => ⟨_, l3, _, _, rfl, rfl, same_new hl3 _ _ (s3b _ _ eL), upd_same, small12 (by simp; (first | lia | omega)), fun yA hyA => ?_⟩⟩
    rw [snoc_int]
    have hyA3 : H3b yA = none := (same_new hl3).free hyA
    have s4 : Same H3b (upd (upd H3b l3 (.lst [V.int wn])) yA (.lst ((ls ++ [wn]).map V.int))) := same_upd (same_new hl3) hyA3
    have eY : (upd (upd H3b l3 (.lst [V.int wn])) yA (.lst ((ls ++ [wn]).map V.int))) yA = some (.lst ((ls ++ [wn]).map V.int)) := upd_same
    generalize upd (upd H3b l3 (.lst [V.int wn])) yA (.lst ((ls ++ [wn]).map V.int)) = H4 at s4 eY
    have s24 : Same H2 H4 := (s3.trans s3b).trans s4
    have s04 := s02.trans s24
    have M4 := M2.same s24
    have eT4 := s24 _ _ eT
    have hyA2 : H2 yA = none := (s3.trans s3b).free hyA3
    -- counts
    refine ⟨_, rfl, _, _, rfl, .inl M4.sq, _, rfl, by (first | lia | omega), by (first | lia | omega), ?_⟩
    rw [en]
    refine comp_inv wk_range (fun i ys H5 => Same H4 H5 ∧ ∃ cs : List Int, ys = cs.map V.int ∧ cs.length = i ∧ ∀ x ∈ cs, Nu x) ⟨Same.refl _, [], rfl, rfl, fun _ z => by cases z⟩ (fun i ys H5 p => p.1) ?_ ?_ ?_
    · rintro i x ys H5 ex ⟨s5, cs, rfl, hcl, hcn⟩
      have hi : i < rows.length := by have := (List.getElem?_eq_some_iff.mp ex).1; simpa using this
      rw [List.getElem?_map, List.getElem?_range hi] at ex
      cases ex
      unfold tYes
      refine (show (if true = true then _ else _) from iteT ?_)
      refine ⟨_, rfl, _, rfl, a, ns, _, rfl, (s04.trans s5).seq hS, by (first | lia | omega), by (first | lia | omega), fun n H6 Nn s6 => ⟨s5.trans s6, cs ++ [n], by simp, by simp [hcl], fun x hx => ?_⟩⟩
      rcases List.mem_append.mp hx with hx | hx
      · exact hcn x hx
      · have : x = n := by simpa using hx
        rw [this]; exact Nn
    · rintro i ys H5 hi ⟨s5, cs, rfl, hcl, _⟩
      rw [List.length_map, List.length_range] at hi
      rw [List.length_map, hcl]
      exact Nat.lt_of_lt_of_le hi (small12 (by (first | lia | omega)))
    rintro ys H5 ⟨s5, cs, rfl, hcl, hcn⟩ cA hcA
    rw [List.length_map, List.length_range] at hcl
    have s5' : Same H5 (upd H5 cA (.lst (cs.map V.int))) := same_new hcA
    have eC : (upd H5 cA (.lst (cs.map V.int))) cA = some (.lst (cs.map V.int)) := upd_same
    generalize upd H5 cA (.lst (cs.map V.int)) = H6 at s5' eC
    have s46 := s5.trans s5'
    have hcA4 : H4 cA = none := s5.free hcA
    have O : BrdOk ⟨rows, ts, ls, cs, wn⟩ := ⟨W, hts, hll, hcl, fun i => (hnn i).1⟩
    have BN : BNu ⟨rows, ts, ls, cs, wn⟩ := by
      refine ⟨O, Nw, fun i => nu_of (hnn i).1 (by have := (hnn i).2; show ls.getD i 0 ≤ _; (first | lia | omega)), fun i => ?_, by show ls.sum ≤ 400; (first | lia | omega)⟩
      by_cases hi : i < cs.length
      · exact getD_all (P := Nu) hcn hi
      · show Nu (cs.getD i 0)
        rw [List.getD_eq_getElem?_getD, List.getElem?_eq_none (by (first | lia | omega))]
        exact ⟨by decide, by decide⟩
    have L6 : Lsts H6 R as tA yA cA ⟨rows, ts, ls, cs, wn⟩ := by
      refine ⟨M4.same s46, s46 _ _ eT4, s46 _ _ eY, eC, fun z => ?_, fun z => ?_, fun z => ?_, fun x hx => ?_⟩
      · rw [z, hyA2] at eT; cases eT
      · rw [z, hcA4] at eT4; cases eT4
      · rw [z, hcA4] at eY; cases eY
      · simp only [List.mem_cons, List.not_mem_nil, or_false] at hx
        rcases hx with rfl | rfl | rfl
        · exact ntA
        · exact mat_no M2 hyA2
        · exact mat_no M4 hcA4
    -- due, board
    refine ⟨_, rfl, _, rfl, _, rfl, _, rfl, R, as, tA, yA, cA, _, rfl, L6, BN.sm, ?_⟩
    refine ⟨_, rfl, _, rfl, BN, fun p dx aR asB aT aL aS H7 B7 s7 fr7 => ?_⟩
    have L7 := L6.same s7
    have dj7 : ∀ x ∈ p :: aT :: aL :: aS :: aR :: asB, x ∉ tA :: yA :: cA :: R :: as := fun x hx z => by obtain ⟨o, e⟩ := L6.ins x z; rw [fr7 x hx] at e; cases e
    refine ⟨_, rfl, _, _, _, _, true, rfl, rfl, .ins B7.ob T.cl_Board T.ib1 T.ib2 T.ib3 T.ib4, kit_self, _, rfl, ?_⟩
    refine iteF ?_
    refine ⟨_, rfl, _, rfl, _, rfl, _, rfl, _, rfl, p, dx, aR, asB, aT, aL, aS, _, R, as, tA, yA, cA, rfl, B7, L7.M, SqL.of L7.t, SqL.of L7.l, SqL.of L7.c, O.b1, O.b2, O.b3, O.b4, O.b5, fun H8 s8 => ⟨_, rfl, ?_⟩⟩
    refine iteF ?_
    have B8 := B7.same s8
    refine ⟨_, rfl, p, dx, aR, asB, aT, aL, aS, _, rfl, B8, BN.sm, fun H9 s9 => ?_⟩
    have s79 := s8.trans s9
    refine ⟨_, rfl, _, _, _, _, true, rfl, rfl, .str _, rfl, _, rfl, ?_⟩
    refine iteF ?_
    refine ⟨_, rfl, _, rfl, rfl, _, rfl, ?_⟩
    rw [decide_eq_true rfl]
    refine iteF ?_
    -- other
    refine ⟨_, rfl, _, rfl, BN, fun p2 dx2 aR2 asB2 aT2 aL2 aS2 HA BA sA frA => ?_⟩
    have s7A := s79.trans sA
    have LA := L7.same s7A
    have B7A := B7.same s7A
    have dj2 : ∀ x ∈ p2 :: aT2 :: aL2 :: aS2 :: aR2 :: asB2, x ∉ p :: aT :: aL :: aS :: aR :: asB := fun x hx z => by obtain ⟨o, e⟩ := board_in B7 x z; rw [s79.free (frA x hx)] at e; cases e
    have dj3 : ∀ x ∈ p2 :: aT2 :: aL2 :: aS2 :: aR2 :: asB2, x ∉ tA :: yA :: cA :: R :: as := fun x hx z => by obtain ⟨o, e⟩ := L7.ins x z; rw [s79.free (frA x hx)] at e; cases e
    -- kept
    refine ⟨_, rfl, _, _, rfl, .inl (SqL.of LA.t), fun k1 hk1 => ?_⟩
    have t1 : Same HA (upd HA k1 (.lst (ts.map V.int))) := same_new hk1
    have e1 : (upd HA k1 (.lst (ts.map V.int))) k1 = some (.lst (ts.map V.int)) := upd_same
    generalize upd HA k1 (.lst (ts.map V.int)) = HB at t1 e1
    refine ⟨_, rfl, _, _, rfl, .inl (SqL.of (t1 _ _ LA.l)), fun k2 hk2 => ?_⟩
    have t2 : Same HB (upd HB k2 (.lst ((ls ++ [wn]).map V.int))) := same_new hk2
    have e2 : (upd HB k2 (.lst ((ls ++ [wn]).map V.int))) k2 = some (.lst ((ls ++ [wn]).map V.int)) := upd_same
    generalize upd HB k2 (.lst ((ls ++ [wn]).map V.int)) = HC at t2 e2
    refine ⟨_, rfl, _, _, rfl, .inl (SqL.of (t2 _ _ (t1 _ _ LA.c))), fun k3 hk3 => ?_⟩
    have t3 : Same HC (upd HC k3 (.lst (cs.map V.int))) := same_new hk3
    have e3 : (upd HC k3 (.lst (cs.map V.int))) k3 = some (.lst (cs.map V.int)) := upd_same
    generalize upd HC k3 (.lst (cs.map V.int)) = HE at t3 e3
    refine ⟨small12 (by show 3 ≤ 100; decide), fun kp hkp => ?_⟩
    have t4 : Same HE (upd HE kp (.lst [V.ref k1, V.ref k2, V.ref k3])) := same_new hkp
    have e4 : (upd HE kp (.lst [V.ref k1, V.ref k2, V.ref k3])) kp = some (.lst [V.ref k1, V.ref k2, V.ref k3]) := upd_same
    generalize upd HE kp (.lst [V.ref k1, V.ref k2, V.ref k3]) = HK at t4 e4
    have tAK : Same HA HK := ((t1.trans t2).trans t3).trans t4
    have fr1' : ∀ x, HA x = none → x ∉ p :: aT :: aL :: aS :: aR :: asB ∧ x ∉ tA :: yA :: cA :: R :: as := fun x hx => ⟨fun z => (by obtain ⟨o, e⟩ := board_in B7A x z; rw [hx] at e; cases e), fun z => (by obtain ⟨o, e⟩ := LA.ins x z; rw [hx] at e; cases e)⟩
    have n1 := fr1' k1 hk1
    have n2 := fr1' k2 (t1.free hk2)
    have n3 := fr1' k3 (t1.free (t2.free hk3))
    have n4 := fr1' kp (t1.free (t2.free (t3.free hkp)))
    have Tw0 : Two A.C HK p dx aR asB aT aL aS R as tA yA cA ⟨rows, ts, ls, cs, wn⟩ ⟨rows, ts, ls, cs, wn⟩ := ⟨B7A.same tAK, LA.same tAK, dj7⟩
    have BK := BA.same tAK
    -- the loop
    refine ⟨_, rfl, by decide, by decide, ?_⟩
    refine for_rangeN (fun i σ H6 => ∃ (b : Brd) (x10 x11 : Option V), σ = [some (.ref a), some (.ref R), some (.ref tA), some (.ref yA), some (.ref cA), some (.str (textS ⟨rows, ts, ls, cs, wn⟩)), some (.ref p), some (.str (textS ⟨rows, ts, ls, cs, wn⟩)), some (.ref p2), some (.ref kp), x10, x11] ∧ Two A.C H6 p dx aR asB aT aL aS R as tA yA cA b b ∧ BrdOk b ∧ b.rows = rows ∧ b.loads.sum ≤ 396 ∧ ∀ x o, x ∉ p :: aT :: aL :: aS :: aR :: asB → x ∉ tA :: yA :: cA :: R :: as → HK x = some o → H6 x = some o) ⟨_, none, none, rfl, Tw0, O, rfl, hsum, fun x o _ _ e => e⟩ ?_ ?_
    · rintro i σ H6 hi ⟨b, x10, x11, rfl, Tw, O, hrows, hsum, fr6⟩ DD hDD
      have el6 := Tw.S.M.reflen
      have e12 := O.W.2.1
      refine ⟨_, rfl, _, _, rfl, .inl Tw.S.M.sq, _, rfl, by (first | lia | omega), by (first | lia | omega), ?_⟩
      have en : (((as.map V.ref).length : Nat) : Int).toNat = b.rows.length := by rw [el6]; simp
      rw [en]
      refine comp_filterS (p := p24 b) wk_range (by rw [List.length_map, List.length_range]; exact small12 (by (first | lia | omega))) (fun x hx H7 s7 Q' q' => ?_) (fun x hx hp H7 s7 Q' q' => ⟨_, rfl, q'⟩) (fun HL lD sL hlD => ?_)
      · obtain ⟨k, hk, rfl⟩ := List.mem_map.mp hx
        rw [List.mem_range] at hk
        have S7 := Tw.S.same s7
        have lL := O.L
        have lS := O.S
        have q2 := q' H7 (Same.refl _)
        change Q' (decide (0 < b.loads.getD (0 + (k : Int)).toNat 0) && decide ((if b.taken > b.steps.getD (0 + (k : Int)).toNat 0 then b.taken else b.steps.getD (0 + (k : Int)).toNat 0) < 10 ^ (19 : Int).toNat)) H7 at q2
        refine ⟨_, rfl, _, rfl, _, _, _, _, rfl, rfl, SqL.of S7.l, at_app (by (first | lia | omega)) (by (first | lia | omega)), _, _, rfl, rfl, _, rfl, ?_⟩
        refine ite2 (fun h1 => ?_) (fun h1 => ?_)
        · rw [h1, Bool.true_and] at q2
          exact ⟨_, rfl, _, rfl, _, _, _, _, rfl, rfl, SqL.of S7.c, at_ints (by (first | lia | omega)) (by (first | lia | omega)), _, rfl, _, rfl, _, _, _, _, rfl, rfl, SqL.of S7.l, at_last_int _ _, _, _, rfl, _, _, rfl, rfl, ⟨by decide, by decide, by decide⟩, _, _, rfl, rfl, _, rfl, q2⟩
        · rw [Bool.eq_false_iff.mpr h1, Bool.false_and] at q2
          exact q2
      have el : (upd HL lD (.lst (lad24 b b.rows.length))) lD = some (.lst (lad24 b b.rows.length)) := upd_same
      have s8 : Same H6 (upd HL lD (.lst (lad24 b b.rows.length))) := same_upd sL (sL.free hlD)
      have hlD6 := sL.free hlD
      have nD1 : lD ∉ p :: aT :: aL :: aS :: aR :: asB := fun z => by obtain ⟨o, e⟩ := board_in Tw.B lD z; rw [hlD6] at e; cases e
      show gName _ _ _ (upd HL lD (.lst (lad24 b b.rows.length))) _
      generalize upd HL lD (.lst (lad24 b b.rows.length)) = H8 at el s8
      have Tw8 := Tw.same s8
      refine ⟨_, rfl, _, _, rfl, .inl (SqL.of el), _, _, rfl, rfl, _, rfl, ?_⟩
      refine ite2 (fun h1 => ?_) (fun h1 => hDD _ _ ⟨b, _, _, rfl, Tw8, O, hrows, hsum, fun x o n1 n2 e => s8 _ _ (fr6 x o n1 n2 e)⟩)
      cases e : lad24 b b.rows.length with
      | nil =>
        rw [e] at h1
        exact absurd h1 (by decide)
      | cons v l' =>
      obtain ⟨s, hs, rfl, g2⟩ := lad24_mem (show v ∈ lad24 b b.rows.length by rw [e]; exact List.mem_cons_self)
      have hat : atI (lad24 b b.rows.length) 0 = some (V.int (s : Int)) := by
        rw [e]
        exact at_list (n := 0) rfl rfl
      refine ⟨_, rfl, _, rfl, _, _, _, _, rfl, rfl, SqL.of el, hat, p, dx, aR, asB, aT, aL, aS, b, (s : Int), rfl, Tw8.B, O, by (first | lia | omega), by (first | lia | omega), fun z => absurd ⟨by (first | lia | omega), by (first | lia | omega)⟩ z, fun _ z => absurd z (by rw [Int.toNat_natCast]; (first | lia | omega)), fun _ _ H9 B9 f9 => ?_⟩
      have Tw9 := Tw8.board B9 f9
      have el9 : H9 lD = some (.lst (lad24 b b.rows.length)) := by rw [f9 lD nD1]; exact el
      refine ⟨_, rfl, _, rfl, _, rfl, _, rfl, _, rfl, _, _, _, _, rfl, rfl, SqL.of el9, hat, R, as, tA, yA, cA, b, (s : Int), rfl, Tw9.S, O, by (first | lia | omega), by (first | lia | omega), fun H10 L10 f10 => ?_⟩
      have Tw10 := Tw9.lists L10 f10
      refine hDD _ _ ⟨_, _, _, rfl, Tw10, O.step hs g2, hrows, Int.le_trans (step_sum O hs) hsum, fun x o n1 n2 e => ?_⟩
      rw [f10 x n2, f9 x n1]
      exact s8 _ _ (fr6 x o n1 n2 e)
    · rintro σ H6 ⟨b, x10, x11, rfl, Tw, O', hrows, hsum, fr6⟩
      refine ⟨_, rfl, _, rfl, _, rfl, _, rfl, _, rfl, p, dx, aR, asB, aT, aL, aS, b, R, as, tA, yA, cA, rfl, Tw.B, Tw.S.M, SqL.of Tw.S.t, SqL.of Tw.S.l, SqL.of Tw.S.c, O'.b1, O'.b2, O'.b3, O'.b4, O'.b5, fun H7 s7 => ⟨_, rfl, ?_⟩⟩
      refine iteF ?_
      have Tw7 := Tw.same s7
      have w1' : (0 : Int) < (b.rows.length : Int) := by rw [hrows]; (first | lia | omega)
      have B7' := Tw7.B
      have hlo := O'.L
      refine ⟨_, rfl, p, dx, _, rfl, B7'.ob, (by rfl), p, dx, aR, asB, aT, aL, aS, b, 0, 1, rfl, B7', O'.L, by decide, by decide, fun z => absurd ⟨by decide, w1'⟩ z, fun _ z => absurd z (by (first | lia | omega)), fun _ _ => ?_⟩
      have B8' := B7'.setL (b.loads.set (0 : Int).toNat (b.loads.getD (0 : Int).toNat 0 + 1))
      have djb : ∀ x, x ∉ p :: aT :: aL :: aS :: aR :: asB → x ≠ aL ∧ x ≠ aT := fun x hx => ⟨fun z => hx (by rw [z]; simp), fun z => hx (by rw [z]; simp)⟩
      have f8 : ∀ x, x ∉ p :: aT :: aL :: aS :: aR :: asB → (upd H7 aL (.lst ((b.loads.set (0 : Int).toNat (b.loads.getD (0 : Int).toNat 0 + 1)).map V.int))) x = H7 x := fun x hx => upd_ne (djb x hx).1
      generalize upd H7 aL (.lst ((b.loads.set (0 : Int).toNat (b.loads.getD (0 : Int).toNat 0 + 1)).map V.int)) = H8' at B8' f8
      have Tw8 := Tw7.board B8' f8
      obtain ⟨c, hat, hc, _⟩ := Tw8.S.M.at (z := 0) (by decide) w1'
      have hr8 := row_len O'.W (show 0 < b.rows.length by (first | lia | omega))
      have hlr : ((b.rows.getD (0 : Int).toNat []).map V.int).length = (b.rows.getD 0 []).length := by rw [List.length_map]; rfl
      refine ⟨_, rfl, p, dx, _, rfl, B8'.ob, (by rfl), _, rfl, _, _, _, _, rfl, rfl, Tw8.S.M.sq, hat, _, _, rfl, .inl (SqL.of hc), _, _, rfl, rfl, ?_⟩
      rw [hlr]
      refine ⟨p, dx, aR, asB, aT, aL, aS, _, 0, _, rfl, B8', O'.T.1, by decide, by decide, by (first | lia | omega), by (first | lia | omega), fun z => absurd ⟨by decide, w1'⟩ z, fun _ z => absurd ⟨by (first | lia | omega), by show _ < ((b.rows.getD 0 []).length : Int); (first | lia | omega)⟩ z, fun _ _ => ?_⟩
      have f9 : ∀ x, x ∉ p :: aT :: aL :: aS :: aR :: asB → (upd H8' aT (.lst ((b.turns.set (0 : Int).toNat (((b.rows.getD 0 []).length : Int) - 1)).map V.int))) x = H8' x := fun x hx => upd_ne (djb x hx).2
      show _
      generalize upd H8' aT (.lst ((b.turns.set (0 : Int).toNat (((b.rows.getD 0 []).length : Int) - 1)).map V.int)) = H9' at f9
      have keep : ∀ x o, x ∉ p :: aT :: aL :: aS :: aR :: asB → x ∉ tA :: yA :: cA :: R :: as → HK x = some o → H9' x = some o := fun x o m1 m2 e => by
        rw [f9 x m1, f8 x m1]
        exact s7 _ _ (fr6 x o m1 m2 e)
      have BZ := BK.keep fun x o hx e => keep x o (dj2 x hx) (dj3 x hx) e
      have SZ := Tw8.S.keep (H' := H9') fun x o hx e => by rw [f9 x (fun z => dj7 x z hx)]; exact e
      have MZ := SZ.M
      rw [hrows] at MZ
      have ek := keep _ _ n4.1 n4.2 e4
      have ek1 := keep _ _ n1.1 n1.2 (t4 _ _ (t3 _ _ (t2 _ _ e1)))
      have ek2 := keep _ _ n2.1 n2.2 (t4 _ _ (t3 _ _ e2))
      have ek3 := keep _ _ n3.1 n3.2 (t4 _ _ e3)
      refine ⟨_, rfl, _, _, _, _, true, rfl, rfl, .ins BZ.ob T.cl_Board T.ib1 T.ib2 T.ib3 T.ib4, kit_self, _, rfl, ?_⟩
      refine iteT ?_
      exact ⟨_, rfl, _, rfl, _, rfl, _, _, _, _, rfl, rfl, SqL.of ek, at_list (n := 0) rfl rfl, _, rfl, _, _, _, _, rfl, rfl, SqL.of ek, at_list (n := 1) rfl rfl, _, rfl, _, _, _, _, rfl, rfl, SqL.of ek, at_list (n := 2) rfl rfl, p2, dx2, aR2, asB2, aT2, aL2, aS2, _, R, as, k1, k2, k3, rfl, BZ, MZ, SqL.of ek1, SqL.of ek2, SqL.of ek3, O.b1, O.b2, O.b3, O.b4, O.b5, fun Hz _ => q Hz⟩
end

theorem all_mk {l : PySem.W.OpenLaw} {w : World} {K : PySem.W.Frag} {h : Heap} {mg : Str → Option Value} {fa : Addr} (X : K.In h) (G : h.Ns mainGlobals mg) (hfa : mg "law" = some (.ref fa))
    {C : Addr}
    {f_check_rows : Addr} {od_check_rows an_check_rows : Option Addr} {sl_check_rows : Array (Option Value)} {oc_check_rows kV_check_rows dc_check_rows pm_check_rows cd_check_rows ct_check_rows : Value}
    {f_check_row : Addr} {od_check_row an_check_row : Option Addr} {sl_check_row : Array (Option Value)} {oc_check_row kV_check_row dc_check_row pm_check_row cd_check_row ct_check_row : Value}
    {f_check_site : Addr} {od_check_site an_check_site : Option Addr} {sl_check_site : Array (Option Value)} {oc_check_site kV_check_site dc_check_site pm_check_site cd_check_site ct_check_site : Value}
    {f_Binit : Addr} {od_Binit an_Binit : Option Addr} {sl_Binit : Array (Option Value)} {oc_Binit kV_Binit dc_Binit pm_Binit cd_Binit ct_Binit : Value}
    {f_Bturn_to : Addr} {od_Bturn_to an_Bturn_to : Option Addr} {sl_Bturn_to : Array (Option Value)} {oc_Bturn_to kV_Bturn_to dc_Bturn_to pm_Bturn_to cd_Bturn_to ct_Bturn_to : Value}
    {f_Bload : Addr} {od_Bload an_Bload : Option Addr} {sl_Bload : Array (Option Value)} {oc_Bload kV_Bload dc_Bload pm_Bload cd_Bload ct_Bload : Value}
    {f_written : Addr} {od_written an_written : Option Addr} {sl_written : Array (Option Value)} {oc_written kV_written dc_written pm_written cd_written ct_written : Value}
    {f_site_line : Addr} {od_site_line an_site_line : Option Addr} {sl_site_line : Array (Option Value)} {oc_site_line kV_site_line dc_site_line pm_site_line cd_site_line ct_site_line : Value}
    {f_way_word : Addr} {od_way_word an_way_word : Option Addr} {sl_way_word : Array (Option Value)} {oc_way_word kV_way_word dc_way_word pm_way_word cd_way_word ct_way_word : Value}
    {f_read : Addr} {od_read an_read : Option Addr} {sl_read : Array (Option Value)} {oc_read kV_read dc_read pm_read cd_read ct_read : Value}
    {f_told : Addr} {od_told an_told : Option Addr} {sl_told : Array (Option Value)} {oc_told kV_told dc_told pm_told cd_told ct_told : Value}
    {f_read_head : Addr} {od_read_head an_read_head : Option Addr} {sl_read_head : Array (Option Value)} {oc_read_head kV_read_head dc_read_head pm_read_head cd_read_head ct_read_head : Value}
    {f_read_numbers : Addr} {od_read_numbers an_read_numbers : Option Addr} {sl_read_numbers : Array (Option Value)} {oc_read_numbers kV_read_numbers dc_read_numbers pm_read_numbers cd_read_numbers ct_read_numbers : Value}
    {f_read_row : Addr} {od_read_row an_read_row : Option Addr} {sl_read_row : Array (Option Value)} {oc_read_row kV_read_row dc_read_row pm_read_row cd_read_row ct_read_row : Value}
    {f_read_way : Addr} {od_read_way an_read_way : Option Addr} {sl_read_way : Array (Option Value)} {oc_read_way kV_read_way dc_read_way pm_read_way cd_read_way ct_read_way : Value}
    {f_read_number : Addr} {od_read_number an_read_number : Option Addr} {sl_read_number : Array (Option Value)} {oc_read_number kV_read_number dc_read_number pm_read_number cd_read_number ct_read_number : Value}
    {f_step : Addr} {od_step an_step : Option Addr} {sl_step : Array (Option Value)} {oc_step kV_step dc_step pm_step cd_step ct_step : Value}
    {f_drawn : Addr} {od_drawn an_drawn : Option Addr} {sl_drawn : Array (Option Value)} {oc_drawn kV_drawn dc_drawn pm_drawn cd_drawn ct_drawn : Value}
    {f_other : Addr} {od_other an_other : Option Addr} {sl_other : Array (Option Value)} {oc_other kV_other dc_other pm_other cd_other ct_other : Value}
    {f_rows_by : Addr} {od_rows_by an_rows_by : Option Addr} {sl_rows_by : Array (Option Value)} {oc_rows_by kV_rows_by dc_rows_by pm_rows_by cd_rows_by ct_rows_by : Value}
    {f_turns_by : Addr} {od_turns_by an_turns_by : Option Addr} {sl_turns_by : Array (Option Value)} {oc_turns_by kV_turns_by dc_turns_by pm_turns_by cd_turns_by ct_turns_by : Value}
    {f_whole : Addr} {od_whole an_whole : Option Addr} {sl_whole : Array (Option Value)} {oc_whole kV_whole dc_whole pm_whole cd_whole ct_whole : Value}
    {f_row : Addr} {od_row an_row : Option Addr} {sl_row : Array (Option Value)} {oc_row kV_row dc_row pm_row cd_row ct_row : Value}
    {f_stands : Addr} {od_stands an_stands : Option Addr} {sl_stands : Array (Option Value)} {oc_stands kV_stands dc_stands pm_stands cd_stands ct_stands : Value}
    {f_step_by : Addr} {od_step_by an_step_by : Option Addr} {sl_step_by : Array (Option Value)} {oc_step_by kV_step_by dc_step_by pm_step_by cd_step_by ct_step_by : Value}
    {f_number_by : Addr} {od_number_by an_number_by : Option Addr} {sl_number_by : Array (Option Value)} {oc_number_by kV_number_by dc_number_by pm_number_by cd_number_by ct_number_by : Value}
    {f_shown : Addr} {od_shown an_shown : Option Addr} {sl_shown : Array (Option Value)} {oc_shown kV_shown dc_shown pm_shown cd_shown ct_shown : Value}
    {f_law : Addr} {od_law an_law : Option Addr} {sl_law : Array (Option Value)} {oc_law kV_law dc_law pm_law cd_law ct_law : Value}
    {t_PIT : Tok}
    {t_MOST_SITES : Tok}
    {t_MOST_EXITS : Tok}
    {t_MOST_MARBLES : Tok}
    {t_HEAD : Tok}
    {t_MARK : Tok}
    {t_PIT_WORD : Tok}
    {t_FIGURES : Tok}
    {t_MOST_FIGURES : Tok}
    {c_NoSite : Addr}
    {c_NoPlace : Addr}
    {c_TooMany : Addr}
    {c_NoMarble : Addr}
    {c_BoardError : Addr}
    (aC : PySem.W.nsIn K mainGlobals "Board" = some (some (.ref C)))
    (a_check_rows : PySem.W.nsIn K mainGlobals "check_rows" = some (some (.ref f_check_rows)))
    (l_check_rows : K.lookup f_check_rows = some ⟨oc_check_rows, od_check_rows, .func (PySem.W.fnOf "check_rows" "check_rows" (defArgs s_check_rows) (defBody s_check_rows) (defScope s_check_rows) .none kV_check_rows dc_check_rows pm_check_rows an_check_rows cd_check_rows ct_check_rows), sl_check_rows⟩) (c_check_rows : PySem.W.codeIn K cd_check_rows "check_rows" = true) (k_check_rows : PySem.W.keepIn K (.ref f_check_rows) = true)
    (a_check_row : PySem.W.nsIn K mainGlobals "check_row" = some (some (.ref f_check_row)))
    (l_check_row : K.lookup f_check_row = some ⟨oc_check_row, od_check_row, .func (PySem.W.fnOf "check_row" "check_row" (defArgs s_check_row) (defBody s_check_row) (defScope s_check_row) .none kV_check_row dc_check_row pm_check_row an_check_row cd_check_row ct_check_row), sl_check_row⟩) (c_check_row : PySem.W.codeIn K cd_check_row "check_row" = true) (k_check_row : PySem.W.keepIn K (.ref f_check_row) = true)
    (a_check_site : PySem.W.nsIn K mainGlobals "check_site" = some (some (.ref f_check_site)))
    (l_check_site : K.lookup f_check_site = some ⟨oc_check_site, od_check_site, .func (PySem.W.fnOf "check_site" "check_site" (defArgs s_check_site) (defBody s_check_site) (defScope s_check_site) .none kV_check_site dc_check_site pm_check_site an_check_site cd_check_site ct_check_site), sl_check_site⟩) (c_check_site : PySem.W.codeIn K cd_check_site "check_site" = true) (k_check_site : PySem.W.keepIn K (.ref f_check_site) = true)
    (a_Binit : PySem.W.findIn K (.ref C) "__init__" = some (some (.ref f_Binit))) (i_Binit : PySem.W.isFn K (.ref f_Binit) = true)
    (l_Binit : K.lookup f_Binit = some ⟨oc_Binit, od_Binit, .func (PySem.W.fnOf "__init__" "Board.__init__" (defArgs s_Binit) (defBody s_Binit) (defScope s_Binit) .none kV_Binit dc_Binit pm_Binit an_Binit cd_Binit ct_Binit), sl_Binit⟩) (c_Binit : PySem.W.codeIn K cd_Binit "Board.__init__" = true) (k_Binit : PySem.W.keepIn K (.ref f_Binit) = true)
    (a_Bturn_to : PySem.W.findIn K (.ref C) "turn_to" = some (some (.ref f_Bturn_to))) (i_Bturn_to : PySem.W.isFn K (.ref f_Bturn_to) = true)
    (l_Bturn_to : K.lookup f_Bturn_to = some ⟨oc_Bturn_to, od_Bturn_to, .func (PySem.W.fnOf "turn_to" "Board.turn_to" (defArgs s_Bturn_to) (defBody s_Bturn_to) (defScope s_Bturn_to) .none kV_Bturn_to dc_Bturn_to pm_Bturn_to an_Bturn_to cd_Bturn_to ct_Bturn_to), sl_Bturn_to⟩) (c_Bturn_to : PySem.W.codeIn K cd_Bturn_to "Board.turn_to" = true) (k_Bturn_to : PySem.W.keepIn K (.ref f_Bturn_to) = true)
    (a_Bload : PySem.W.findIn K (.ref C) "load" = some (some (.ref f_Bload))) (i_Bload : PySem.W.isFn K (.ref f_Bload) = true)
    (l_Bload : K.lookup f_Bload = some ⟨oc_Bload, od_Bload, .func (PySem.W.fnOf "load" "Board.load" (defArgs s_Bload) (defBody s_Bload) (defScope s_Bload) .none kV_Bload dc_Bload pm_Bload an_Bload cd_Bload ct_Bload), sl_Bload⟩) (c_Bload : PySem.W.codeIn K cd_Bload "Board.load" = true) (k_Bload : PySem.W.keepIn K (.ref f_Bload) = true)
    (a_written : PySem.W.nsIn K mainGlobals "written" = some (some (.ref f_written)))
    (l_written : K.lookup f_written = some ⟨oc_written, od_written, .func (PySem.W.fnOf "written" "written" (defArgs s_written) (defBody s_written) (defScope s_written) .none kV_written dc_written pm_written an_written cd_written ct_written), sl_written⟩) (c_written : PySem.W.codeIn K cd_written "written" = true) (k_written : PySem.W.keepIn K (.ref f_written) = true)
    (a_site_line : PySem.W.nsIn K mainGlobals "site_line" = some (some (.ref f_site_line)))
    (l_site_line : K.lookup f_site_line = some ⟨oc_site_line, od_site_line, .func (PySem.W.fnOf "site_line" "site_line" (defArgs s_site_line) (defBody s_site_line) (defScope s_site_line) .none kV_site_line dc_site_line pm_site_line an_site_line cd_site_line ct_site_line), sl_site_line⟩) (c_site_line : PySem.W.codeIn K cd_site_line "site_line" = true) (k_site_line : PySem.W.keepIn K (.ref f_site_line) = true)
    (a_way_word : PySem.W.nsIn K mainGlobals "way_word" = some (some (.ref f_way_word)))
    (l_way_word : K.lookup f_way_word = some ⟨oc_way_word, od_way_word, .func (PySem.W.fnOf "way_word" "way_word" (defArgs s_way_word) (defBody s_way_word) (defScope s_way_word) .none kV_way_word dc_way_word pm_way_word an_way_word cd_way_word ct_way_word), sl_way_word⟩) (c_way_word : PySem.W.codeIn K cd_way_word "way_word" = true) (k_way_word : PySem.W.keepIn K (.ref f_way_word) = true)
    (a_read : PySem.W.nsIn K mainGlobals "read" = some (some (.ref f_read)))
    (l_read : K.lookup f_read = some ⟨oc_read, od_read, .func (PySem.W.fnOf "read" "read" (defArgs s_read) (defBody s_read) (defScope s_read) .none kV_read dc_read pm_read an_read cd_read ct_read), sl_read⟩) (c_read : PySem.W.codeIn K cd_read "read" = true) (k_read : PySem.W.keepIn K (.ref f_read) = true)
    (a_told : PySem.W.nsIn K mainGlobals "told" = some (some (.ref f_told)))
    (l_told : K.lookup f_told = some ⟨oc_told, od_told, .func (PySem.W.fnOf "told" "told" (defArgs s_told) (defBody s_told) (defScope s_told) .none kV_told dc_told pm_told an_told cd_told ct_told), sl_told⟩) (c_told : PySem.W.codeIn K cd_told "told" = true) (k_told : PySem.W.keepIn K (.ref f_told) = true)
    (a_read_head : PySem.W.nsIn K mainGlobals "read_head" = some (some (.ref f_read_head)))
    (l_read_head : K.lookup f_read_head = some ⟨oc_read_head, od_read_head, .func (PySem.W.fnOf "read_head" "read_head" (defArgs s_read_head) (defBody s_read_head) (defScope s_read_head) .none kV_read_head dc_read_head pm_read_head an_read_head cd_read_head ct_read_head), sl_read_head⟩) (c_read_head : PySem.W.codeIn K cd_read_head "read_head" = true) (k_read_head : PySem.W.keepIn K (.ref f_read_head) = true)
    (a_read_numbers : PySem.W.nsIn K mainGlobals "read_numbers" = some (some (.ref f_read_numbers)))
    (l_read_numbers : K.lookup f_read_numbers = some ⟨oc_read_numbers, od_read_numbers, .func (PySem.W.fnOf "read_numbers" "read_numbers" (defArgs s_read_numbers) (defBody s_read_numbers) (defScope s_read_numbers) .none kV_read_numbers dc_read_numbers pm_read_numbers an_read_numbers cd_read_numbers ct_read_numbers), sl_read_numbers⟩) (c_read_numbers : PySem.W.codeIn K cd_read_numbers "read_numbers" = true) (k_read_numbers : PySem.W.keepIn K (.ref f_read_numbers) = true)
    (a_read_row : PySem.W.nsIn K mainGlobals "read_row" = some (some (.ref f_read_row)))
    (l_read_row : K.lookup f_read_row = some ⟨oc_read_row, od_read_row, .func (PySem.W.fnOf "read_row" "read_row" (defArgs s_read_row) (defBody s_read_row) (defScope s_read_row) .none kV_read_row dc_read_row pm_read_row an_read_row cd_read_row ct_read_row), sl_read_row⟩) (c_read_row : PySem.W.codeIn K cd_read_row "read_row" = true) (k_read_row : PySem.W.keepIn K (.ref f_read_row) = true)
    (a_read_way : PySem.W.nsIn K mainGlobals "read_way" = some (some (.ref f_read_way)))
    (l_read_way : K.lookup f_read_way = some ⟨oc_read_way, od_read_way, .func (PySem.W.fnOf "read_way" "read_way" (defArgs s_read_way) (defBody s_read_way) (defScope s_read_way) .none kV_read_way dc_read_way pm_read_way an_read_way cd_read_way ct_read_way), sl_read_way⟩) (c_read_way : PySem.W.codeIn K cd_read_way "read_way" = true) (k_read_way : PySem.W.keepIn K (.ref f_read_way) = true)
    (a_read_number : PySem.W.nsIn K mainGlobals "read_number" = some (some (.ref f_read_number)))
    (l_read_number : K.lookup f_read_number = some ⟨oc_read_number, od_read_number, .func (PySem.W.fnOf "read_number" "read_number" (defArgs s_read_number) (defBody s_read_number) (defScope s_read_number) .none kV_read_number dc_read_number pm_read_number an_read_number cd_read_number ct_read_number), sl_read_number⟩) (c_read_number : PySem.W.codeIn K cd_read_number "read_number" = true) (k_read_number : PySem.W.keepIn K (.ref f_read_number) = true)
    (a_step : PySem.W.nsIn K mainGlobals "step" = some (some (.ref f_step)))
    (l_step : K.lookup f_step = some ⟨oc_step, od_step, .func (PySem.W.fnOf "step" "step" (defArgs s_step) (defBody s_step) (defScope s_step) .none kV_step dc_step pm_step an_step cd_step ct_step), sl_step⟩) (c_step : PySem.W.codeIn K cd_step "step" = true) (k_step : PySem.W.keepIn K (.ref f_step) = true)
    (a_drawn : PySem.W.nsIn K mainGlobals "_law_drawn" = some (some (.ref f_drawn)))
    (l_drawn : K.lookup f_drawn = some ⟨oc_drawn, od_drawn, .func (PySem.W.fnOf "_law_drawn" "_law_drawn" (defArgs s_drawn) (defBody s_drawn) (defScope s_drawn) .none kV_drawn dc_drawn pm_drawn an_drawn cd_drawn ct_drawn), sl_drawn⟩) (c_drawn : PySem.W.codeIn K cd_drawn "_law_drawn" = true) (k_drawn : PySem.W.keepIn K (.ref f_drawn) = true)
    (a_other : PySem.W.nsIn K mainGlobals "_law_other" = some (some (.ref f_other)))
    (l_other : K.lookup f_other = some ⟨oc_other, od_other, .func (PySem.W.fnOf "_law_other" "_law_other" (defArgs s_other) (defBody s_other) (defScope s_other) .none kV_other dc_other pm_other an_other cd_other ct_other), sl_other⟩) (c_other : PySem.W.codeIn K cd_other "_law_other" = true) (k_other : PySem.W.keepIn K (.ref f_other) = true)
    (a_rows_by : PySem.W.nsIn K mainGlobals "_law_rows_by" = some (some (.ref f_rows_by)))
    (l_rows_by : K.lookup f_rows_by = some ⟨oc_rows_by, od_rows_by, .func (PySem.W.fnOf "_law_rows_by" "_law_rows_by" (defArgs s_rows_by) (defBody s_rows_by) (defScope s_rows_by) .none kV_rows_by dc_rows_by pm_rows_by an_rows_by cd_rows_by ct_rows_by), sl_rows_by⟩) (c_rows_by : PySem.W.codeIn K cd_rows_by "_law_rows_by" = true) (k_rows_by : PySem.W.keepIn K (.ref f_rows_by) = true)
    (a_turns_by : PySem.W.nsIn K mainGlobals "_law_turns_by" = some (some (.ref f_turns_by)))
    (l_turns_by : K.lookup f_turns_by = some ⟨oc_turns_by, od_turns_by, .func (PySem.W.fnOf "_law_turns_by" "_law_turns_by" (defArgs s_turns_by) (defBody s_turns_by) (defScope s_turns_by) .none kV_turns_by dc_turns_by pm_turns_by an_turns_by cd_turns_by ct_turns_by), sl_turns_by⟩) (c_turns_by : PySem.W.codeIn K cd_turns_by "_law_turns_by" = true) (k_turns_by : PySem.W.keepIn K (.ref f_turns_by) = true)
    (a_whole : PySem.W.nsIn K mainGlobals "_law_whole" = some (some (.ref f_whole)))
    (l_whole : K.lookup f_whole = some ⟨oc_whole, od_whole, .func (PySem.W.fnOf "_law_whole" "_law_whole" (defArgs s_whole) (defBody s_whole) (defScope s_whole) .none kV_whole dc_whole pm_whole an_whole cd_whole ct_whole), sl_whole⟩) (c_whole : PySem.W.codeIn K cd_whole "_law_whole" = true) (k_whole : PySem.W.keepIn K (.ref f_whole) = true)
    (a_row : PySem.W.nsIn K mainGlobals "_law_row" = some (some (.ref f_row)))
    (l_row : K.lookup f_row = some ⟨oc_row, od_row, .func (PySem.W.fnOf "_law_row" "_law_row" (defArgs s_row) (defBody s_row) (defScope s_row) .none kV_row dc_row pm_row an_row cd_row ct_row), sl_row⟩) (c_row : PySem.W.codeIn K cd_row "_law_row" = true) (k_row : PySem.W.keepIn K (.ref f_row) = true)
    (a_stands : PySem.W.nsIn K mainGlobals "_law_stands" = some (some (.ref f_stands)))
    (l_stands : K.lookup f_stands = some ⟨oc_stands, od_stands, .func (PySem.W.fnOf "_law_stands" "_law_stands" (defArgs s_stands) (defBody s_stands) (defScope s_stands) .none kV_stands dc_stands pm_stands an_stands cd_stands ct_stands), sl_stands⟩) (c_stands : PySem.W.codeIn K cd_stands "_law_stands" = true) (k_stands : PySem.W.keepIn K (.ref f_stands) = true)
    (a_step_by : PySem.W.nsIn K mainGlobals "_law_step_by" = some (some (.ref f_step_by)))
    (l_step_by : K.lookup f_step_by = some ⟨oc_step_by, od_step_by, .func (PySem.W.fnOf "_law_step_by" "_law_step_by" (defArgs s_step_by) (defBody s_step_by) (defScope s_step_by) .none kV_step_by dc_step_by pm_step_by an_step_by cd_step_by ct_step_by), sl_step_by⟩) (c_step_by : PySem.W.codeIn K cd_step_by "_law_step_by" = true) (k_step_by : PySem.W.keepIn K (.ref f_step_by) = true)
    (a_number_by : PySem.W.nsIn K mainGlobals "_law_number_by" = some (some (.ref f_number_by)))
    (l_number_by : K.lookup f_number_by = some ⟨oc_number_by, od_number_by, .func (PySem.W.fnOf "_law_number_by" "_law_number_by" (defArgs s_number_by) (defBody s_number_by) (defScope s_number_by) .none kV_number_by dc_number_by pm_number_by an_number_by cd_number_by ct_number_by), sl_number_by⟩) (c_number_by : PySem.W.codeIn K cd_number_by "_law_number_by" = true) (k_number_by : PySem.W.keepIn K (.ref f_number_by) = true)
    (a_shown : PySem.W.nsIn K mainGlobals "_law_shown" = some (some (.ref f_shown)))
    (l_shown : K.lookup f_shown = some ⟨oc_shown, od_shown, .func (PySem.W.fnOf "_law_shown" "_law_shown" (defArgs s_shown) (defBody s_shown) (defScope s_shown) .none kV_shown dc_shown pm_shown an_shown cd_shown ct_shown), sl_shown⟩) (c_shown : PySem.W.codeIn K cd_shown "_law_shown" = true) (k_shown : PySem.W.keepIn K (.ref f_shown) = true)
    (a_law : PySem.W.nsIn K mainGlobals "law" = some (some (.ref f_law)))
    (l_law : K.lookup f_law = some ⟨oc_law, od_law, .func (PySem.W.fnOf "law" "law" (defArgs s_law) (defBody s_law) (defScope s_law) .none kV_law dc_law pm_law an_law cd_law ct_law), sl_law⟩) (c_law : PySem.W.codeIn K cd_law "law" = true) (k_law : PySem.W.keepIn K (.ref f_law) = true)
    (pg : PySem.W.plainGet K C Str.empty = true) (hd : PySem.W.hasDictIn K C = true) (po : PySem.W.plainOver K C = true) (sa : PySem.W.findIn K (.ref C) "__setattr__" = some (some (.builtin "object.__setattr__"))) (mk : PySem.W.makesIn K C = true) (kc : PySem.W.keepIn K (.ref C) = true)
    (na_rows : PySem.W.findIn K (.ref C) "rows" = some none)
    (na_turns : PySem.W.findIn K (.ref C) "turns" = some none)
    (na_loads : PySem.W.findIn K (.ref C) "loads" = some none)
    (na_steps : PySem.W.findIn K (.ref C) "steps" = some none)
    (na_taken : PySem.W.findIn K (.ref C) "taken" = some none)
    (z_len : PySem.W.nsIn K mainGlobals "len" = some none)
    (z_range : PySem.W.nsIn K mainGlobals "range" = some none)
    (z_isinstance : PySem.W.nsIn K mainGlobals "isinstance" = some none)
    (z_int : PySem.W.nsIn K mainGlobals "int" = some none)
    (z_bool : PySem.W.nsIn K mainGlobals "bool" = some none)
    (z_list : PySem.W.nsIn K mainGlobals "list" = some none)
    (z_reversed : PySem.W.nsIn K mainGlobals "reversed" = some none)
    (z_sum : PySem.W.nsIn K mainGlobals "sum" = some none)
    (z_all : PySem.W.nsIn K mainGlobals "all" = some none)
    (z_enumerate : PySem.W.nsIn K mainGlobals "enumerate" = some none)
    (z_max : PySem.W.nsIn K mainGlobals "max" = some none)
    (z_str : PySem.W.nsIn K mainGlobals "str" = some none)
    (g_PIT : PySem.W.nsIn K mainGlobals "PIT" = some (some (.int (-1) t_PIT)))
    (g_MOST_SITES : PySem.W.nsIn K mainGlobals "MOST_SITES" = some (some (.int (12) t_MOST_SITES)))
    (g_MOST_EXITS : PySem.W.nsIn K mainGlobals "MOST_EXITS" = some (some (.int (8) t_MOST_EXITS)))
    (g_MOST_MARBLES : PySem.W.nsIn K mainGlobals "MOST_MARBLES" = some (some (.int (400) t_MOST_MARBLES)))
    (g_HEAD : PySem.W.nsIn K mainGlobals "HEAD" = some (some (.str "board" t_HEAD)))
    (g_MARK : PySem.W.nsIn K mainGlobals "MARK" = some (some (.str ">" t_MARK)))
    (g_PIT_WORD : PySem.W.nsIn K mainGlobals "PIT_WORD" = some (some (.str "pit" t_PIT_WORD)))
    (g_FIGURES : PySem.W.nsIn K mainGlobals "FIGURES" = some (some (.str "0123456789" t_FIGURES)))
    (g_MOST_FIGURES : PySem.W.nsIn K mainGlobals "MOST_FIGURES" = some (some (.int (20) t_MOST_FIGURES)))
    (ax_NoSite : PySem.W.nsIn K mainGlobals "NoSite" = some (some (.ref c_NoSite)))
    (ex_NoSite : PySem.W.excIn K c_NoSite vErr "ValueError.__new__" = true)
    (kb_NoSite : PySem.W.kitOne K (.ref c_NoSite) (.type "BaseException") = some true)
    (ax_NoPlace : PySem.W.nsIn K mainGlobals "NoPlace" = some (some (.ref c_NoPlace)))
    (ex_NoPlace : PySem.W.excIn K c_NoPlace vErr "ValueError.__new__" = true)
    (kb_NoPlace : PySem.W.kitOne K (.ref c_NoPlace) (.type "BaseException") = some true)
    (ax_TooMany : PySem.W.nsIn K mainGlobals "TooMany" = some (some (.ref c_TooMany)))
    (ex_TooMany : PySem.W.excIn K c_TooMany vErr "ValueError.__new__" = true)
    (kb_TooMany : PySem.W.kitOne K (.ref c_TooMany) (.type "BaseException") = some true)
    (ax_NoMarble : PySem.W.nsIn K mainGlobals "NoMarble" = some (some (.ref c_NoMarble)))
    (ex_NoMarble : PySem.W.excIn K c_NoMarble vErr "ValueError.__new__" = true)
    (kb_NoMarble : PySem.W.kitOne K (.ref c_NoMarble) (.type "BaseException") = some true)
    (ax_BoardError : PySem.W.nsIn K mainGlobals "BoardError" = some (some (.ref c_BoardError)))
    (ex_BoardError : PySem.W.excIn K c_BoardError vErr "ValueError.__new__" = true)
    (kb_BoardError : PySem.W.kitOne K (.ref c_BoardError) (.type "BaseException") = some true)
    (ib1 : PySem.W.findIn K (.ref C) "__class__" = some (some (.builtin "object.__class__"))) (ib2 : PySem.W.specialIn K (.builtin "object.__class__") "__get__" = some (some (.builtin "getset_descriptor.__get__"))) (ib3 : PySem.W.takesIn K (.builtin "object.__class__") = some true) (ib4 : PySem.W.mroIn K C (.type "object") = some true)
    (q_int_bool : PySem.W.kitOne K (.type "int") (.type "bool") = some false)
    : ∃ fd : FuncData, (∀ (s : Shared) (v : Value), BindsTo s fd ⟨[v], []⟩ [("script", v)]) ∧ ∀ base : Heap, K.In base → base.Ns mainGlobals mg → FnOk l.prog w K mg base CX0 8 fa fd ["script"] (spLaw K) := by
  have e := hfa.symm.trans (PySem.W.mg_of X G a_law)
  cases e
  have F_check_rows := fun_mk (st := s_check_rows) l_check_rows c_check_rows k_check_rows
  have b_check_rows := F_check_rows.binds1 (p0 := "rows") fun _ _ _ _ _ _ _ => rfl
  have F_check_row := fun_mk (st := s_check_row) l_check_row c_check_row k_check_row
  have b_check_row := F_check_row.binds2 (p0 := "row") (p1 := "sites") fun _ _ _ _ _ _ _ _ => rfl
  have F_check_site := fun_mk (st := s_check_site) l_check_site c_check_site k_check_site
  have b_check_site := F_check_site.binds2 (p0 := "board") (p1 := "at") fun _ _ _ _ _ _ _ _ => rfl
  have F_Binit := fun_mk (st := s_Binit) l_Binit c_Binit k_Binit
  have b_Binit := F_Binit.binds2 (p0 := "self") (p1 := "rows") fun _ _ _ _ _ _ _ _ => rfl
  have F_Bturn_to := fun_mk (st := s_Bturn_to) l_Bturn_to c_Bturn_to k_Bturn_to
  have b_Bturn_to := F_Bturn_to.binds3 (p0 := "self") (p1 := "at") (p2 := "place") fun _ _ _ _ _ _ _ _ _ => rfl
  have F_Bload := fun_mk (st := s_Bload) l_Bload c_Bload k_Bload
  have b_Bload := F_Bload.binds3 (p0 := "self") (p1 := "at") (p2 := "many") fun _ _ _ _ _ _ _ _ _ => rfl
  have F_written := fun_mk (st := s_written) l_written c_written k_written
  have b_written := F_written.binds1 (p0 := "board") fun _ _ _ _ _ _ _ => rfl
  have F_site_line := fun_mk (st := s_site_line) l_site_line c_site_line k_site_line
  have b_site_line := F_site_line.binds2 (p0 := "board") (p1 := "at") fun _ _ _ _ _ _ _ _ => rfl
  have F_way_word := fun_mk (st := s_way_word) l_way_word c_way_word k_way_word
  have b_way_word := F_way_word.binds1 (p0 := "way") fun _ _ _ _ _ _ _ => rfl
  have F_read := fun_mk (st := s_read) l_read c_read k_read
  have b_read := F_read.binds1 (p0 := "text") fun _ _ _ _ _ _ _ => rfl
  have F_told := fun_mk (st := s_told) l_told c_told k_told
  have b_told := F_told.binds2 (p0 := "rows") (p1 := "numbers") fun _ _ _ _ _ _ _ _ => rfl
  have F_read_head := fun_mk (st := s_read_head) l_read_head c_read_head k_read_head
  have b_read_head := F_read_head.binds1 (p0 := "words") fun _ _ _ _ _ _ _ => rfl
  have F_read_numbers := fun_mk (st := s_read_numbers) l_read_numbers c_read_numbers k_read_numbers
  have b_read_numbers := F_read_numbers.binds1 (p0 := "words") fun _ _ _ _ _ _ _ => rfl
  have F_read_row := fun_mk (st := s_read_row) l_read_row c_read_row k_read_row
  have b_read_row := F_read_row.binds1 (p0 := "words") fun _ _ _ _ _ _ _ => rfl
  have F_read_way := fun_mk (st := s_read_way) l_read_way c_read_way k_read_way
  have b_read_way := F_read_way.binds1 (p0 := "word") fun _ _ _ _ _ _ _ => rfl
  have F_read_number := fun_mk (st := s_read_number) l_read_number c_read_number k_read_number
  have b_read_number := F_read_number.binds1 (p0 := "word") fun _ _ _ _ _ _ _ => rfl
  have F_step := fun_mk (st := s_step) l_step c_step k_step
  have b_step := F_step.binds2 (p0 := "board") (p1 := "at") fun _ _ _ _ _ _ _ _ => rfl
  have F_drawn := fun_mk (st := s_drawn) l_drawn c_drawn k_drawn
  have b_drawn := F_drawn.binds3 (p0 := "script") (p1 := "k") (p2 := "many") fun _ _ _ _ _ _ _ _ _ => rfl
  have F_other := fun_mk (st := s_other) l_other c_other k_other
  have b_other := F_other.binds2 (p0 := "gone") (p1 := "many") fun _ _ _ _ _ _ _ _ => rfl
  have F_rows_by := fun_mk (st := s_rows_by) l_rows_by c_rows_by k_rows_by
  have b_rows_by := F_rows_by.binds1 (p0 := "script") fun _ _ _ _ _ _ _ => rfl
  have F_turns_by := fun_mk (st := s_turns_by) l_turns_by c_turns_by k_turns_by
  have b_turns_by := F_turns_by.binds2 (p0 := "script") (p1 := "rows") fun _ _ _ _ _ _ _ _ => rfl
  have F_whole := fun_mk (st := s_whole) l_whole c_whole k_whole
  have b_whole := F_whole.binds1 (p0 := "found") fun _ _ _ _ _ _ _ => rfl
  have F_row := fun_mk (st := s_row) l_row c_row k_row
  have b_row := F_row.binds2 (p0 := "found") (p1 := "due") fun _ _ _ _ _ _ _ _ => rfl
  have F_stands := fun_mk (st := s_stands) l_stands c_stands k_stands
  have b_stands := F_stands.binds5 (p0 := "board") (p1 := "rows") (p2 := "turns") (p3 := "lying") (p4 := "counts") fun _ _ _ _ _ _ _ _ _ _ _ => rfl
  have F_step_by := fun_mk (st := s_step_by) l_step_by c_step_by k_step_by
  have b_step_by := F_step_by.binds5 (p0 := "rows") (p1 := "turns") (p2 := "lying") (p3 := "counts") (p4 := "at") fun _ _ _ _ _ _ _ _ _ _ _ => rfl
  have F_number_by := fun_mk (st := s_number_by) l_number_by c_number_by k_number_by
  have b_number_by := F_number_by.binds2 (p0 := "script") (p1 := "k") fun _ _ _ _ _ _ _ _ => rfl
  have F_shown := fun_mk (st := s_shown) l_shown c_shown k_shown
  have b_shown := F_shown.binds4 (p0 := "rows") (p1 := "turns") (p2 := "lying") (p3 := "counts") fun _ _ _ _ _ _ _ _ _ _ => rfl
  have F_law := fun_mk (st := s_law) l_law c_law k_law
  have b_law := F_law.binds1 (p0 := "script") fun _ _ _ _ _ _ _ => rfl
  have T : Txt K mg { C := C, f_check_rows := f_check_rows, fd_check_rows := PySem.W.fnOf "check_rows" "check_rows" (defArgs s_check_rows) (defBody s_check_rows) (defScope s_check_rows) .none kV_check_rows dc_check_rows pm_check_rows an_check_rows cd_check_rows ct_check_rows, f_check_row := f_check_row, fd_check_row := PySem.W.fnOf "check_row" "check_row" (defArgs s_check_row) (defBody s_check_row) (defScope s_check_row) .none kV_check_row dc_check_row pm_check_row an_check_row cd_check_row ct_check_row, f_check_site := f_check_site, fd_check_site := PySem.W.fnOf "check_site" "check_site" (defArgs s_check_site) (defBody s_check_site) (defScope s_check_site) .none kV_check_site dc_check_site pm_check_site an_check_site cd_check_site ct_check_site, f_Binit := f_Binit, fd_Binit := PySem.W.fnOf "__init__" "Board.__init__" (defArgs s_Binit) (defBody s_Binit) (defScope s_Binit) .none kV_Binit dc_Binit pm_Binit an_Binit cd_Binit ct_Binit, f_Bturn_to := f_Bturn_to, fd_Bturn_to := PySem.W.fnOf "turn_to" "Board.turn_to" (defArgs s_Bturn_to) (defBody s_Bturn_to) (defScope s_Bturn_to) .none kV_Bturn_to dc_Bturn_to pm_Bturn_to an_Bturn_to cd_Bturn_to ct_Bturn_to, f_Bload := f_Bload, fd_Bload := PySem.W.fnOf "load" "Board.load" (defArgs s_Bload) (defBody s_Bload) (defScope s_Bload) .none kV_Bload dc_Bload pm_Bload an_Bload cd_Bload ct_Bload, f_written := f_written, fd_written := PySem.W.fnOf "written" "written" (defArgs s_written) (defBody s_written) (defScope s_written) .none kV_written dc_written pm_written an_written cd_written ct_written, f_site_line := f_site_line, fd_site_line := PySem.W.fnOf "site_line" "site_line" (defArgs s_site_line) (defBody s_site_line) (defScope s_site_line) .none kV_site_line dc_site_line pm_site_line an_site_line cd_site_line ct_site_line, f_way_word := f_way_word, fd_way_word := PySem.W.fnOf "way_word" "way_word" (defArgs s_way_word) (defBody s_way_word) (defScope s_way_word) .none kV_way_word dc_way_word pm_way_word an_way_word cd_way_word ct_way_word, f_read := f_read, fd_read := PySem.W.fnOf "read" "read" (defArgs s_read) (defBody s_read) (defScope s_read) .none kV_read dc_read pm_read an_read cd_read ct_read, f_told := f_told, fd_told := PySem.W.fnOf "told" "told" (defArgs s_told) (defBody s_told) (defScope s_told) .none kV_told dc_told pm_told an_told cd_told ct_told, f_read_head := f_read_head, fd_read_head := PySem.W.fnOf "read_head" "read_head" (defArgs s_read_head) (defBody s_read_head) (defScope s_read_head) .none kV_read_head dc_read_head pm_read_head an_read_head cd_read_head ct_read_head, f_read_numbers := f_read_numbers, fd_read_numbers := PySem.W.fnOf "read_numbers" "read_numbers" (defArgs s_read_numbers) (defBody s_read_numbers) (defScope s_read_numbers) .none kV_read_numbers dc_read_numbers pm_read_numbers an_read_numbers cd_read_numbers ct_read_numbers, f_read_row := f_read_row, fd_read_row := PySem.W.fnOf "read_row" "read_row" (defArgs s_read_row) (defBody s_read_row) (defScope s_read_row) .none kV_read_row dc_read_row pm_read_row an_read_row cd_read_row ct_read_row, f_read_way := f_read_way, fd_read_way := PySem.W.fnOf "read_way" "read_way" (defArgs s_read_way) (defBody s_read_way) (defScope s_read_way) .none kV_read_way dc_read_way pm_read_way an_read_way cd_read_way ct_read_way, f_read_number := f_read_number, fd_read_number := PySem.W.fnOf "read_number" "read_number" (defArgs s_read_number) (defBody s_read_number) (defScope s_read_number) .none kV_read_number dc_read_number pm_read_number an_read_number cd_read_number ct_read_number, f_step := f_step, fd_step := PySem.W.fnOf "step" "step" (defArgs s_step) (defBody s_step) (defScope s_step) .none kV_step dc_step pm_step an_step cd_step ct_step, f_drawn := f_drawn, fd_drawn := PySem.W.fnOf "_law_drawn" "_law_drawn" (defArgs s_drawn) (defBody s_drawn) (defScope s_drawn) .none kV_drawn dc_drawn pm_drawn an_drawn cd_drawn ct_drawn, f_other := f_other, fd_other := PySem.W.fnOf "_law_other" "_law_other" (defArgs s_other) (defBody s_other) (defScope s_other) .none kV_other dc_other pm_other an_other cd_other ct_other, f_rows_by := f_rows_by, fd_rows_by := PySem.W.fnOf "_law_rows_by" "_law_rows_by" (defArgs s_rows_by) (defBody s_rows_by) (defScope s_rows_by) .none kV_rows_by dc_rows_by pm_rows_by an_rows_by cd_rows_by ct_rows_by, f_turns_by := f_turns_by, fd_turns_by := PySem.W.fnOf "_law_turns_by" "_law_turns_by" (defArgs s_turns_by) (defBody s_turns_by) (defScope s_turns_by) .none kV_turns_by dc_turns_by pm_turns_by an_turns_by cd_turns_by ct_turns_by, f_whole := f_whole, fd_whole := PySem.W.fnOf "_law_whole" "_law_whole" (defArgs s_whole) (defBody s_whole) (defScope s_whole) .none kV_whole dc_whole pm_whole an_whole cd_whole ct_whole, f_row := f_row, fd_row := PySem.W.fnOf "_law_row" "_law_row" (defArgs s_row) (defBody s_row) (defScope s_row) .none kV_row dc_row pm_row an_row cd_row ct_row, f_stands := f_stands, fd_stands := PySem.W.fnOf "_law_stands" "_law_stands" (defArgs s_stands) (defBody s_stands) (defScope s_stands) .none kV_stands dc_stands pm_stands an_stands cd_stands ct_stands, f_step_by := f_step_by, fd_step_by := PySem.W.fnOf "_law_step_by" "_law_step_by" (defArgs s_step_by) (defBody s_step_by) (defScope s_step_by) .none kV_step_by dc_step_by pm_step_by an_step_by cd_step_by ct_step_by, f_number_by := f_number_by, fd_number_by := PySem.W.fnOf "_law_number_by" "_law_number_by" (defArgs s_number_by) (defBody s_number_by) (defScope s_number_by) .none kV_number_by dc_number_by pm_number_by an_number_by cd_number_by ct_number_by, f_shown := f_shown, fd_shown := PySem.W.fnOf "_law_shown" "_law_shown" (defArgs s_shown) (defBody s_shown) (defScope s_shown) .none kV_shown dc_shown pm_shown an_shown cd_shown ct_shown, f_law := fa, fd_law := PySem.W.fnOf "law" "law" (defArgs s_law) (defBody s_law) (defScope s_law) .none kV_law dc_law pm_law an_law cd_law ct_law, t_PIT := t_PIT, t_MOST_SITES := t_MOST_SITES, t_MOST_EXITS := t_MOST_EXITS, t_MOST_MARBLES := t_MOST_MARBLES, t_HEAD := t_HEAD, t_MARK := t_MARK, t_PIT_WORD := t_PIT_WORD, t_FIGURES := t_FIGURES, t_MOST_FIGURES := t_MOST_FIGURES, c_NoSite := c_NoSite, c_NoPlace := c_NoPlace, c_TooMany := c_TooMany, c_NoMarble := c_NoMarble, c_BoardError := c_BoardError } := { F_check_rows := F_check_rows, m_check_rows := PySem.W.mg_of X G a_check_rows, k_check_rows := k_check_rows, b_check_rows := b_check_rows, F_check_row := F_check_row, m_check_row := PySem.W.mg_of X G a_check_row, k_check_row := k_check_row, b_check_row := b_check_row, F_check_site := F_check_site, m_check_site := PySem.W.mg_of X G a_check_site, k_check_site := k_check_site, b_check_site := b_check_site, F_Binit := F_Binit, mk_Board := ⟨mk, a_Binit, i_Binit, kc⟩, bi_Board := b_Binit, F_Bturn_to := F_Bturn_to, mt_turn_to := ⟨a_Bturn_to, i_Bturn_to, k_Bturn_to⟩, bm_turn_to := b_Bturn_to, F_Bload := F_Bload, mt_load := ⟨a_Bload, i_Bload, k_Bload⟩, bm_load := b_Bload, F_written := F_written, m_written := PySem.W.mg_of X G a_written, k_written := k_written, b_written := b_written, F_site_line := F_site_line, m_site_line := PySem.W.mg_of X G a_site_line, k_site_line := k_site_line, b_site_line := b_site_line, F_way_word := F_way_word, m_way_word := PySem.W.mg_of X G a_way_word, k_way_word := k_way_word, b_way_word := b_way_word, F_read := F_read, m_read := PySem.W.mg_of X G a_read, k_read := k_read, b_read := b_read, F_told := F_told, m_told := PySem.W.mg_of X G a_told, k_told := k_told, b_told := b_told, F_read_head := F_read_head, m_read_head := PySem.W.mg_of X G a_read_head, k_read_head := k_read_head, b_read_head := b_read_head, F_read_numbers := F_read_numbers, m_read_numbers := PySem.W.mg_of X G a_read_numbers, k_read_numbers := k_read_numbers, b_read_numbers := b_read_numbers, F_read_row := F_read_row, m_read_row := PySem.W.mg_of X G a_read_row, k_read_row := k_read_row, b_read_row := b_read_row, F_read_way := F_read_way, m_read_way := PySem.W.mg_of X G a_read_way, k_read_way := k_read_way, b_read_way := b_read_way, F_read_number := F_read_number, m_read_number := PySem.W.mg_of X G a_read_number, k_read_number := k_read_number, b_read_number := b_read_number, F_step := F_step, m_step := PySem.W.mg_of X G a_step, k_step := k_step, b_step := b_step, F_drawn := F_drawn, m__law_drawn := PySem.W.mg_of X G a_drawn, k__law_drawn := k_drawn, b__law_drawn := b_drawn, F_other := F_other, m__law_other := PySem.W.mg_of X G a_other, k__law_other := k_other, b__law_other := b_other, F_rows_by := F_rows_by, m__law_rows_by := PySem.W.mg_of X G a_rows_by, k__law_rows_by := k_rows_by, b__law_rows_by := b_rows_by, F_turns_by := F_turns_by, m__law_turns_by := PySem.W.mg_of X G a_turns_by, k__law_turns_by := k_turns_by, b__law_turns_by := b_turns_by, F_whole := F_whole, m__law_whole := PySem.W.mg_of X G a_whole, k__law_whole := k_whole, b__law_whole := b_whole, F_row := F_row, m__law_row := PySem.W.mg_of X G a_row, k__law_row := k_row, b__law_row := b_row, F_stands := F_stands, m__law_stands := PySem.W.mg_of X G a_stands, k__law_stands := k_stands, b__law_stands := b_stands, F_step_by := F_step_by, m__law_step_by := PySem.W.mg_of X G a_step_by, k__law_step_by := k_step_by, b__law_step_by := b_step_by, F_number_by := F_number_by, m__law_number_by := PySem.W.mg_of X G a_number_by, k__law_number_by := k_number_by, b__law_number_by := b_number_by, F_shown := F_shown, m__law_shown := PySem.W.mg_of X G a_shown, k__law_shown := k_shown, b__law_shown := b_shown, F_law := F_law, m_law := PySem.W.mg_of X G a_law, k_law := k_law, b_law := b_law, m_Board := PySem.W.mg_of X G aC, cl_Board := ⟨pg, hd, po, sa⟩, na_rows := na_rows, na_turns := na_turns, na_loads := na_loads, na_steps := na_steps, na_taken := na_taken, ib1 := ib1, ib2 := ib2, ib3 := ib3, ib4 := ib4, n_len := PySem.W.mg_none_of X G z_len, n_range := PySem.W.mg_none_of X G z_range, n_isinstance := PySem.W.mg_none_of X G z_isinstance, n_int := PySem.W.mg_none_of X G z_int, n_bool := PySem.W.mg_none_of X G z_bool, n_list := PySem.W.mg_none_of X G z_list, n_reversed := PySem.W.mg_none_of X G z_reversed, n_sum := PySem.W.mg_none_of X G z_sum, n_all := PySem.W.mg_none_of X G z_all, n_enumerate := PySem.W.mg_none_of X G z_enumerate, n_max := PySem.W.mg_none_of X G z_max, n_str := PySem.W.mg_none_of X G z_str, g_PIT := PySem.W.mg_of X G g_PIT, g_MOST_SITES := PySem.W.mg_of X G g_MOST_SITES, g_MOST_EXITS := PySem.W.mg_of X G g_MOST_EXITS, g_MOST_MARBLES := PySem.W.mg_of X G g_MOST_MARBLES, g_HEAD := PySem.W.mg_of X G g_HEAD, g_MARK := PySem.W.mg_of X G g_MARK, g_PIT_WORD := PySem.W.mg_of X G g_PIT_WORD, g_FIGURES := PySem.W.mg_of X G g_FIGURES, g_MOST_FIGURES := PySem.W.mg_of X G g_MOST_FIGURES, m_NoSite := PySem.W.mg_of X G ax_NoSite, x_NoSite := ⟨ex_NoSite⟩, m_NoPlace := PySem.W.mg_of X G ax_NoPlace, x_NoPlace := ⟨ex_NoPlace⟩, m_TooMany := PySem.W.mg_of X G ax_TooMany, x_TooMany := ⟨ex_TooMany⟩, m_NoMarble := PySem.W.mg_of X G ax_NoMarble, x_NoMarble := ⟨ex_NoMarble⟩, m_BoardError := PySem.W.mg_of X G ax_BoardError, x_BoardError := ⟨ex_BoardError⟩, kb_NoSite := kb_NoSite, kb_NoPlace := kb_NoPlace, kb_TooMany := kb_TooMany, kb_NoMarble := kb_NoMarble, kb_BoardError := kb_BoardError, q_int_bool := q_int_bool }
  exact ⟨PySem.W.fnOf "law" "law" (defArgs s_law) (defBody s_law) (defScope s_law) .none kV_law dc_law pm_law an_law cd_law ct_law, fun s v => .of_eq rfl, fun base _ _ => ok_law T (ok_drawn T) (ok_rows_by T (ok_drawn T) (ok_other T)) (ok_turns_by T (ok_drawn T)) (ok_number_by T (ok_drawn T)) (ok_shown T) (ok_read T (ok_read_head T (ok_read_number T)) (ok_read_numbers T (ok_read_number T)) (ok_read_row T (ok_read_way T (ok_read_number T))) (ok_told T (ok_Binit T (ok_check_rows T (ok_check_row T))) (ok_Bturn_to T (ok_check_site T)) (ok_Bload T (ok_check_site T))).calm) (ok_stands T (ok_whole T) (ok_row T (ok_whole T))) (ok_written T (ok_site_line T (ok_way_word T))) (ok_step T (ok_check_site T)) (ok_step_by T) (ok_Bload T (ok_check_site T)) (ok_Bturn_to T (ok_check_site T))⟩
theorem walk {l : PySem.W.OpenLaw} {q : Program} {loose : List Str} {XP : (Str → Option Value) → Heap → Prop} {YP : World → Heap → Prop} {d : DefRec} {K : Params → PySem.W.Frag} (hn : l.most = some 63) (hdf : d.params.defaults = [])
    (hY : ∀ (w : World) (h : Heap), YP w h → (K w.params).In h)
    (F : ∀ (w : World) (mg : Str → Option Value) (fa : Addr) (h : Heap), (K w.params).In h → h.Ns mainGlobals mg → mg d.name = some (.ref fa) →
      ∃ fd : FuncData, (∀ (s : Shared) (u : Value), BindsTo s fd ⟨[u], []⟩ [("script", u)]) ∧ ∀ base : Heap, (K w.params).In base → base.Ns mainGlobals mg → FnOk l.prog w (K w.params) mg base CX0 8 fa fd ["script"] (spLaw (K w.params))) :
    PySem.W.WalkO q loose XP YP l.row.toRowW d [] (fun f vs => PySem.call f vs) :=
  L2.walk_of (n := 63) (k := 8) (x := "script") (CX := fun _ => CX0) (sp := fun w => spLaw (K w.params)) hn (by decide) hdf ⟨rfl, by decide, by decide⟩ hY F (fun _ _ a ns hl _ hS => ⟨a, ns, rfl, hS, hl, fun _ => rfl⟩) fun _ _ _ _ _ z => z
end Law
theorem PySem.W.Fast.tw9411152211004949910 : True := trivial
theorem PySem.W.Fast.tw1499034442192198227 : True := trivial
theorem PySem.W.Fast.tw10444334840707568405 : True := trivial
theorem PySem.W.Fast.tw11884590065272010655 : True := trivial
theorem PySem.W.Fast.tw15477595949560865367 : True := trivial
theorem PySem.W.Fast.tw2537689949575736629 : True := trivial
theorem PySem.W.Fast.tw14716597891747128186 : True := trivial
theorem PySem.W.Fast.tw11857509360949967665 : True := trivial
theorem PySem.W.Fast.tw162570845090958511 : True := trivial
theorem PySem.W.Fast.tw5180804386847865231 : True := trivial
theorem PySem.W.Fast.tw14595052335528671877 : True := trivial
theorem PySem.W.Fast.tw373543474888563652 : True := trivial
theorem PySem.W.Fast.tw222942470502913054 : True := trivial
theorem PySem.W.Fast.tw11168396207317186250 : True := trivial
open PySem PySem.W PyProof.Rows
set_option maxRecDepth 100000 in
set_option maxHeartbeats 0 in
theorem PySem.Challenge.cw_marblerun_k24_whole_read_back_holds : PySem.Challenge.rw_marblerun_k24_whole_read_back.Holds := by
  w_on; o_law; k_head; (case hw => w_witness2)
  k_fill
  refine Law.walk (l := PySem.Challenge.rw_marblerun_k24_whole_read_back) rfl rfl (fun w h Y => PySem.W.kIn_of Y) ?F
  case F =>
    intro w mg fa h KX G hmg
    refine' Law.all_mk KX G hmg ?aC ?a_check_rows ?l_check_rows ?c_check_rows ?k_check_rows ?a_check_row ?l_check_row ?c_check_row ?k_check_row ?a_check_site ?l_check_site ?c_check_site ?k_check_site ?a_Binit ?i_Binit ?l_Binit ?c_Binit ?k_Binit ?a_Bturn_to ?i_Bturn_to ?l_Bturn_to ?c_Bturn_to ?k_Bturn_to ?a_Bload ?i_Bload ?l_Bload ?c_Bload ?k_Bload ?a_written ?l_written ?c_written ?k_written ?a_site_line ?l_site_line ?c_site_line ?k_site_line ?a_way_word ?l_way_word ?c_way_word ?k_way_word ?a_read ?l_read ?c_read ?k_read ?a_told ?l_told ?c_told ?k_told ?a_read_head ?l_read_head ?c_read_head ?k_read_head ?a_read_numbers ?l_read_numbers ?c_read_numbers ?k_read_numbers ?a_read_row ?l_read_row ?c_read_row ?k_read_row ?a_read_way ?l_read_way ?c_read_way ?k_read_way ?a_read_number ?l_read_number ?c_read_number ?k_read_number ?a_step ?l_step ?c_step ?k_step ?a_drawn ?l_drawn ?c_drawn ?k_drawn ?a_other ?l_other ?c_other ?k_other ?a_rows_by ?l_rows_by ?c_rows_by ?k_rows_by ?a_turns_by ?l_turns_by ?c_turns_by ?k_turns_by ?a_whole ?l_whole ?c_whole ?k_whole ?a_row ?l_row ?c_row ?k_row ?a_stands ?l_stands ?c_stands ?k_stands ?a_step_by ?l_step_by ?c_step_by ?k_step_by ?a_number_by ?l_number_by ?c_number_by ?k_number_by ?a_shown ?l_shown ?c_shown ?k_shown ?a_law ?l_law ?c_law ?k_law ?pg ?hd ?po ?sa ?mk ?kc ?na_rows ?na_turns ?na_loads ?na_steps ?na_taken ?z_len ?z_range ?z_isinstance ?z_int ?z_bool ?z_list ?z_reversed ?z_sum ?z_all ?z_enumerate ?z_max ?z_str ?g_PIT ?g_MOST_SITES ?g_MOST_EXITS ?g_MOST_MARBLES ?g_HEAD ?g_MARK ?g_PIT_WORD ?g_FIGURES ?g_MOST_FIGURES ?ax_NoSite ?ex_NoSite ?kb_NoSite ?ax_NoPlace ?ex_NoPlace ?kb_NoPlace ?ax_TooMany ?ex_TooMany ?kb_TooMany ?ax_NoMarble ?ex_NoMarble ?kb_NoMarble ?ax_BoardError ?ex_BoardError ?kb_BoardError ?ib1 ?ib2 ?ib3 ?ib4 ?q_int_bool
    (case aC => k_is)
    (case a_check_rows => k_is)
    (case l_check_rows => k_is)
    (case c_check_rows => k_is)
    (case k_check_rows => k_is)
    (case a_check_row => k_is)
    (case l_check_row => k_is)
    (case c_check_row => k_is)
    (case k_check_row => k_is)
    (case a_check_site => k_is)
    (case l_check_site => k_is)
    (case c_check_site => k_is)
    (case k_check_site => k_is)
    (case a_Binit => k_is)
    (case i_Binit => k_is)
    (case l_Binit => k_is)
    (case c_Binit => k_is)
    (case k_Binit => k_is)
    (case a_Bturn_to => k_is)
    (case i_Bturn_to => k_is)
    (case l_Bturn_to => k_is)
    (case c_Bturn_to => k_is)
    (case k_Bturn_to => k_is)
    (case a_Bload => k_is)
    (case i_Bload => k_is)
    (case l_Bload => k_is)
    (case c_Bload => k_is)
    (case k_Bload => k_is)
    (case a_written => k_is)
    (case l_written => k_is)
    (case c_written => k_is)
    (case k_written => k_is)
    (case a_site_line => k_is)
    (case l_site_line => k_is)
    (case c_site_line => k_is)
    (case k_site_line => k_is)
    (case a_way_word => k_is)
    (case l_way_word => k_is)
    (case c_way_word => k_is)
    (case k_way_word => k_is)
    (case a_read => k_is)
    (case l_read => k_is)
    (case c_read => k_is)
    (case k_read => k_is)
    (case a_told => k_is)
    (case l_told => k_is)
    (case c_told => k_is)
    (case k_told => k_is)
    (case a_read_head => k_is)
    (case l_read_head => k_is)
    (case c_read_head => k_is)
    (case k_read_head => k_is)
    (case a_read_numbers => k_is)
    (case l_read_numbers => k_is)
    (case c_read_numbers => k_is)
    (case k_read_numbers => k_is)
    (case a_read_row => k_is)
    (case l_read_row => k_is)
    (case c_read_row => k_is)
    (case k_read_row => k_is)
    (case a_read_way => k_is)
    (case l_read_way => k_is)
    (case c_read_way => k_is)
    (case k_read_way => k_is)
    (case a_read_number => k_is)
    (case l_read_number => k_is)
    (case c_read_number => k_is)
    (case k_read_number => k_is)
    (case a_step => k_is)
    (case l_step => k_is)
    (case c_step => k_is)
    (case k_step => k_is)
    (case a_drawn => k_is)
    (case l_drawn => k_is)
    (case c_drawn => k_is)
    (case k_drawn => k_is)
    (case a_other => k_is)
    (case l_other => k_is)
    (case c_other => k_is)
    (case k_other => k_is)
    (case a_rows_by => k_is)
    (case l_rows_by => k_is)
    (case c_rows_by => k_is)
    (case k_rows_by => k_is)
    (case a_turns_by => k_is)
    (case l_turns_by => k_is)
    (case c_turns_by => k_is)
    (case k_turns_by => k_is)
    (case a_whole => k_is)
    (case l_whole => k_is)
    (case c_whole => k_is)
    (case k_whole => k_is)
    (case a_row => k_is)
    (case l_row => k_is)
    (case c_row => k_is)
    (case k_row => k_is)
    (case a_stands => k_is)
    (case l_stands => k_is)
    (case c_stands => k_is)
    (case k_stands => k_is)
    (case a_step_by => k_is)
    (case l_step_by => k_is)
    (case c_step_by => k_is)
    (case k_step_by => k_is)
    (case a_number_by => k_is)
    (case l_number_by => k_is)
    (case c_number_by => k_is)
    (case k_number_by => k_is)
    (case a_shown => k_is)
    (case l_shown => k_is)
    (case c_shown => k_is)
    (case k_shown => k_is)
    (case a_law => k_is)
    (case l_law => k_is)
    (case c_law => k_is)
    (case k_law => k_is)
    (case pg => k_is)
    (case hd => k_is)
    (case po => k_is)
    (case sa => k_is)
    (case mk => k_is)
    (case kc => k_is)
    (case na_rows => k_is)
    (case na_turns => k_is)
    (case na_loads => k_is)
    (case na_steps => k_is)
    (case na_taken => k_is)
    (case z_len => k_is)
    (case z_range => k_is)
    (case z_isinstance => k_is)
    (case z_int => k_is)
    (case z_bool => k_is)
    (case z_list => k_is)
    (case z_reversed => k_is)
    (case z_sum => k_is)
    (case z_all => k_is)
    (case z_enumerate => k_is)
    (case z_max => k_is)
    (case z_str => k_is)
    (case g_PIT => k_is)
    (case g_MOST_SITES => k_is)
    (case g_MOST_EXITS => k_is)
    (case g_MOST_MARBLES => k_is)
    (case g_HEAD => k_is)
    (case g_MARK => k_is)
    (case g_PIT_WORD => k_is)
    (case g_FIGURES => k_is)
    (case g_MOST_FIGURES => k_is)
    (case ax_NoSite => k_is)
    (case ax_NoPlace => k_is)
    (case ax_TooMany => k_is)
    (case ax_NoMarble => k_is)
    (case ax_BoardError => k_is)
    (case ib1 => k_is)
    (case ib2 => k_is)
    (case ib3 => k_is)
    (case ib4 => k_is)
    (case ex_NoSite => k_exc)
    (case ex_NoPlace => k_exc)
    (case ex_TooMany => k_exc)
    (case ex_NoMarble => k_exc)
    (case ex_BoardError => k_exc)
    (case kb_NoSite => kit_is)
    (case kb_NoPlace => kit_is)
    (case kb_TooMany => kit_is)
    (case kb_NoMarble => kit_is)
    (case kb_BoardError => kit_is)
    (case q_int_bool => kit_is)
#print axioms PySem.Challenge.cw_marblerun_k24_whole_read_back_holds
