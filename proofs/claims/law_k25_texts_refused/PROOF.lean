import PyProof.Rows.All
import Wide.All
import OpenK.AllK
import Wide.FinOn
import Lean
import PyProof.EqAt
import PyProof.EqKinds
import PyProof.TupleCall
import PySem.Challenge.RW_marblerun_k25_texts_refused
local macro_rules | `(tactic| omega) => `(tactic| lia)
set_option Elab.async false
set_option linter.all false
set_option maxRecDepth 100000
namespace L2
open PySem PySem.Spec PyProof.Rows
abbrev Key := Sum Int Str
def keyIs : Key → Value → Bool
  | .inl k, v => Value.isInt k v
  | .inr x, v => Value.isStrOf x v
def keyH (w : World) : Key → Int
  | .inl k => hashInt k
  | .inr x => hashStr w x
theorem keyIs_shape : ∀ {k : Key} {v : Value}, keyIs k v = true → (∃ i t, k = Sum.inl i ∧ v = Value.int i t) ∨ (∃ x t, k = Sum.inr x ∧ v = Value.str x t)
  | .inl i, v, h => by
    obtain ⟨t, e⟩ := Value.isInt_shape (k := i) (v := v) h
    exact .inl ⟨i, t, rfl, e⟩
  | .inr x, v, h => by
    obtain ⟨t, e⟩ := Value.isStrOf_shape (x := x) (v := v) h
    exact .inr ⟨x, t, rfl, e⟩
theorem key_ll (a b : Int) : decide ((Sum.inl a : Key) = Sum.inl b) = (a == b) := by
  by_cases e : a = b
  · subst e; simp
  · have h : ¬ (Sum.inl a : Key) = Sum.inl b := fun q => e (Sum.inl.inj q)
    rw [decide_eq_false h]
    exact (beq_eq_false_iff_ne.mpr e).symm
theorem key_rr (a b : Str) : decide ((Sum.inr a : Key) = Sum.inr b) = decide (a = b) := by
  by_cases e : a = b
  · subst e; simp
  · have h : ¬ (Sum.inr a : Key) = Sum.inr b := fun q => e (Sum.inr.inj q)
    rw [decide_eq_false h, decide_eq_false e]
theorem key_lr (a : Int) (b : Str) : decide ((Sum.inl a : Key) = Sum.inr b) = false := decide_eq_false (fun q => nomatch q)
theorem key_rl (a : Str) (b : Int) : decide ((Sum.inr a : Key) = Sum.inl b) = false := decide_eq_false (fun q => nomatch q)
def mixKind (prog : Program) (w : World) : PySem.KeyKind prog w Key where
  is := keyIs
  hash := keyH w
  inj := fun v a b ha hb => by
    rcases keyIs_shape ha with ⟨i, t, rfl, rfl⟩ | ⟨x, t, rfl, rfl⟩
    · rcases keyIs_shape hb with ⟨j, u, rfl, e⟩ | ⟨y, u, rfl, e⟩
      · injection e with e1 _; rw [e1]
      · exact nomatch e
    · rcases keyIs_shape hb with ⟨j, u, rfl, e⟩ | ⟨y, u, rfl, e⟩
      · exact nomatch e
      · injection e with e1 _; rw [e1]
  byValue := fun k v h => by
    rcases keyIs_shape h with ⟨i, t, rfl, rfl⟩ | ⟨x, t, rfl, rfl⟩ <;> rfl
  pyHash := fun hv h => by
    rcases keyIs_shape hv with ⟨i, t, rfl, rfl⟩ | ⟨x, t, rfl, rfl⟩
    · exact wpAny_pyHash_int h
    · exact wpAny_pyHash_str h
  eqBool := fun hu hv h => by
    rcases keyIs_shape hu with ⟨i, t, rfl, rfl⟩ | ⟨x, t, rfl, rfl⟩
    · rcases keyIs_shape hv with ⟨j, u, rfl, rfl⟩ | ⟨y, u, rfl, rfl⟩
      · rw [key_ll] at h; exact wpAny_eqBool_int h
      · rw [key_lr] at h; exact SeqAt.EqAt.int_str i t y u _ _ _ _ h
    · rcases keyIs_shape hv with ⟨j, u, rfl, rfl⟩ | ⟨y, u, rfl, rfl⟩
      · rw [key_rl] at h; exact SeqAt.EqAt.str_int x t j u _ _ _ _ h
      · rw [key_rr] at h; exact wpAny_eqBool_str h
  «strs» := fun k x t v h => by
    rcases keyIs_shape h with ⟨i, u, rfl, e⟩ | ⟨y, u, rfl, e⟩
    · exact nomatch e
    · injection e with e1 _
      subst e1
      cases v <;> rfl
end L2
namespace L2
open PySem PySem.Spec PyProof.Rows
inductive V where
  | non | bl (b : Bool) | int (i : Int) | str (x : Str) | byt (b : Array UInt8) | flt (b : UInt64) | ref (a : Addr) | ty (n : String)
  deriving DecidableEq
def RelV : V → Value → Prop
  | .non, u => u = Value.none
  | .bl b, u => u = Value.bool b
  | .int i, u => ∃ t, u = Value.int i t
  | .str x, u => ∃ t, u = Value.str x t
  | .byt b, u => ∃ t, u = Value.bytes b t
  | .flt b, u => ∃ t, u = Value.float b t
  | .ref a, u => u = Value.ref a
  | .ty n, u => u = Value.type n
abbrev Vals : List V → List Value → Prop := Paired RelV
theorem Vals.length {xs : List V} {us : List Value} (r : Vals xs us) : xs.length = us.length := Paired.length r
theorem Vals.get : ∀ {xs : List V} {us : List Value} {i : Nat} {x : V}, Vals xs us → xs[i]? = some x → ∃ u, us[i]? = some u ∧ RelV x u
  | _, _, _, _, .nil, e => by simp at e
  | _, _, 0, _, .cons r _, e => by simp at e; subst e; exact ⟨_, rfl, r⟩
  | _, _, i + 1, x, .cons _ t, e => by
    obtain ⟨u, h1, h2⟩ := Vals.get (i := i) (x := x) t (by simpa using e)
    exact ⟨u, by simpa using h1, h2⟩
theorem Vals.set {x : V} {u : Value} (r : RelV x u) : ∀ {xs : List V} {us : List Value} (i : Nat), Vals xs us → Vals (xs.set i x) (us.set i u)
  | _, _, _, .nil => .nil
  | _, _, 0, .cons _ t => .cons r t
  | _, _, i + 1, .cons q t => .cons q (Vals.set r i t)
theorem Vals.append : ∀ {xs ys : List V} {us ws : List Value}, Vals xs us → Vals ys ws → Vals (xs ++ ys) (us ++ ws)
  | _, _, _, _, .nil, s => s
  | _, _, _, _, .cons r t, s => .cons r (Vals.append t s)
theorem Vals.take : ∀ {xs : List V} {us : List Value} (n : Nat), Vals xs us → Vals (xs.take n) (us.take n)
  | _, _, 0, _ => .nil
  | _, _, _ + 1, .nil => .nil
  | _, _, n + 1, .cons r t => .cons r (Vals.take n t)
theorem Vals.drop : ∀ {xs : List V} {us : List Value} (n : Nat), Vals xs us → Vals (xs.drop n) (us.drop n)
  | _, _, 0, r => r
  | _, _, _ + 1, .nil => .nil
  | _, _, n + 1, .cons _ t => Vals.drop n t
def RelO : Option V → Option Value → Prop
  | some v, some u => RelV v u
  | none, none => True
  | _, _ => False
def KV {κ : Type} : List (κ × V) → List (κ × Value) → Prop := Paired fun (p : κ × V) (q : κ × Value) => p.1 = q.1 ∧ RelV p.2 q.2
def kV : Key → V
  | .inl i => .int i
  | .inr x => .str x
inductive HO where
  | lst (xs : List V)
  | tup (xs : List V)
  | dK (kvs : List (Key × V)) | dT (kvs : List (List Key × V))
  | set (S : Int → Bool) (n : Nat)
  | ins (C dx : Addr) (fs : List (Str × V))
  | own (x : Addr)
  | xd (fs : List (Str × V))
  | met (f x : Addr)
  | rng (lo hi : Int)
  | frz (o : Obj) (u : HO)
  | tbl (ps : Array Value)
  | ext (φ : Heap → Prop)
abbrev Hp := Addr → Option HO
def upd (H : Hp) (a : Addr) (o : HO) : Hp := fun b => if b = a then some o else H b
theorem upd_same {H : Hp} {a : Addr} {o : HO} : upd H a o a = some o := by unfold upd; rw [if_pos rfl]
theorem upd_ne {H : Hp} {a b : Addr} {o : HO} (h : b ≠ a) : upd H a o b = H b := by unfold upd; rw [if_neg h]
theorem upd_upd {H : Hp} {a : Addr} {o u : HO} : upd (upd H a o) a u = upd H a u := by
  funext b; unfold upd; split <;> rfl
theorem ne_of {H : Hp} {a b : Addr} {o u : HO} (h : H a = some o) (h' : H b = some u) (d : o ≠ u) : a ≠ b := by
  intro e; subst e; rw [h] at h'; exact d (Option.some.inj h')
theorem ne_of_none {H : Hp} {a b : Addr} {o : HO} (h : H a = some o) (h' : H b = none) : a ≠ b := by
  intro e; subst e; rw [h] at h'; cases h'
section
variable (P : Program) (w : World)
def ObjOk (H : Hp) (h : Heap) (a : Addr) : HO → Prop
  | .lst xs => xs.length ≤ sizeLine ∧ ∃ (its : List Value) (n : Nat), Vals xs its ∧ h.get? a = some { cls := .type "list", data := .seq its.toArray n }
  | .tup xs => xs.length ≤ sizeLine ∧ ∃ its : List Value, Vals xs its ∧ IsTup h a its.toArray
  | .dK kvs => kvs.length ≤ sizeLine ∧ (a == sysModules) = false ∧ ∃ vs, KV kvs vs ∧ h.DictOf (mixKind P w) a vs
  | .dT kvs => kvs.length ≤ sizeLine ∧ (a == sysModules) = false ∧ ∃ xs : List (List Key × Addr × Value),
      Paired (fun (p : List Key × V) (q : List Key × Addr × Value) => p.1 = q.1 ∧ H q.2.1 = some (.tup (p.1.map kV)) ∧ RelV p.2 q.2.2) kvs xs ∧
      ∃ o es ep, h.get? a = some o ∧ o.ExactDict ∧ o.data = .dict es ep ∧ es.toList = xs.map (entryOfKey (tupleKind (mixKind P w))) ∧ (xs.map (·.1)).Nodup
  | .set S n => h.SetOf (intKind P w) a S n
  | .ins C dx fs => H dx = some (.own a) ∧ fs.length ≤ 1000 ∧ dx ≠ a ∧ h.get? a = some (PySem.W.instObj C dx) ∧
      ∃ mA, h.Ns1 dx mA ∧ (∀ f, RelO (fs.lookup f) (mA f)) ∧ PySem.Within mA (fs.map (·.1))
  | .own _ => ∃ o, h.get? a = some o
  | .xd fs => ∃ mA, h.Ns1 a mA ∧ ∀ f, RelO (fs.lookup f) (mA f)
  | .rng lo hi => ∃ t u v, h.get? a = some { cls := .type "range", data := .fields #[.int lo t, .int hi u, .int 1 v] }
  | .frz o u => h.get? a = some o ∧ ObjOk H h a u
  | .tbl ps => h.get? a = some { cls := .none, data := .fields ps }
  | .met f x => h.get? a = some (PySem.W.methodObj (.ref f) (.ref x))
  | .ext φ => φ h ∧ (∃ o, h.get? a = some o) ∧ ∀ h1 h2 : Heap, φ h1 → (∀ o, h1.get? a = some o → h2.get? a = some o) → φ h2
def HOk (H : Hp) (h : Heap) : Prop := ∀ a o, H a = some o → ObjOk P w H h a o
end
section
variable {P : Program} {w : World} {H H' : Hp} {h h' : Heap} {a : Addr} {o : HO}
theorem ObjOk.lt (x : ObjOk P w H h a o) : a < h.objs.size := by
  cases o with
  | lst xs => obtain ⟨_, _, _, _, e⟩ := x; exact Heap.lt_size e
  | tup xs => obtain ⟨_, _, _, p⟩ := x; exact p.lt
  | dK kvs => obtain ⟨_, _, _, _, o, _, _, e, _⟩ := x; exact Heap.lt_size e
  | dT kvs => obtain ⟨_, _, _, _, o, _, _, e, _⟩ := x; exact Heap.lt_size e
  | set S n => obtain ⟨o, _, _, _, e, _⟩ := x; exact Heap.lt_size e
  | ins C dx fs => obtain ⟨_, _, _, e, _⟩ := x; exact Heap.lt_size e
  | own y => obtain ⟨_, e⟩ := x; exact Heap.lt_size e
  | xd fs => obtain ⟨_, ⟨_, _, _, e, _⟩, _⟩ := x; exact Heap.lt_size e
  | rng lo hi => obtain ⟨_, _, _, e⟩ := x; exact Heap.lt_size e
  | frz ob u => obtain ⟨e, _⟩ := x; exact Heap.lt_size e
  | tbl ps => exact Heap.lt_size (show h.get? a = some _ from x)
  | met f y => exact Heap.lt_size (show h.get? a = some _ from x)
  | ext φ => obtain ⟨_, ⟨_, e⟩, _⟩ := x; exact Heap.lt_size e
theorem Paired.mapP {α β : Type} {F G : α → β → Prop} : ∀ {l₁ : List α} {l₂ : List β}, Paired F l₁ l₂ → (∀ a b, F a b → G a b) → Paired G l₁ l₂
  | _, _, .nil, _ => .nil
  | _, _, .cons r t, f => .cons (f _ _ r) (Paired.mapP t f)
theorem ObjOk.stay (x : ObjOk P w H h a o) (k : ∀ b u, (b = a ∨ H b = some (.own a)) → h.get? b = some u → h'.get? b = some u)
    (ho : ∀ b, H b = some (.own a) → H' b = some (.own a)) (ht : ∀ b xs, H b = some (.tup xs) → H' b = some (.tup xs)) : ObjOk P w H' h' a o := by
  induction o with
  | lst xs => obtain ⟨z, its, n, r, e⟩ := x; exact ⟨z, its, n, r, k _ _ (.inl rfl) e⟩
  | tup xs => obtain ⟨z, its, r, ob, e, c⟩ := x; exact ⟨z, its, r, ob, k _ _ (.inl rfl) e, c⟩
  | dK kvs => obtain ⟨z, y, vs, r, ob, es, ep, e, c⟩ := x; exact ⟨z, y, vs, r, ob, es, ep, k _ _ (.inl rfl) e, c⟩
  | dT kvs =>
    obtain ⟨z, y, xs, r, ob, es, ep, e, c⟩ := x
    exact ⟨z, y, xs, Paired.mapP r fun p q z => ⟨z.1, ht _ _ z.2.1, z.2.2⟩, ob, es, ep, k _ _ (.inl rfl) e, c⟩
  | set S n => obtain ⟨ob, es, ep, t, e, c⟩ := x; exact ⟨ob, es, ep, t, k _ _ (.inl rfl) e, c⟩
  | ins C dx fs =>
    obtain ⟨d, z, ne, e, mA, ⟨od, es, ep, e2, c⟩, r⟩ := x
    exact ⟨ho _ d, z, ne, k _ _ (.inl rfl) e, mA, ⟨od, es, ep, k _ _ (.inr d) e2, c⟩, r⟩
  | own y => obtain ⟨ob, e⟩ := x; exact ⟨ob, k _ _ (.inl rfl) e⟩
  | xd fs => obtain ⟨mA, ⟨od, es, ep, e, c⟩, r⟩ := x; exact ⟨mA, ⟨od, es, ep, k _ _ (.inl rfl) e, c⟩, r⟩
  | rng lo hi => obtain ⟨t, u, v, e⟩ := x; exact ⟨t, u, v, k _ _ (.inl rfl) e⟩
  | frz ob u ih => obtain ⟨e, q⟩ := x; exact ⟨k _ _ (.inl rfl) e, ih q⟩
  | tbl ps =>
    have e : h.get? a = some { cls := .none, data := .fields ps } := x
    show h'.get? a = some { cls := .none, data := .fields ps }
    exact k a _ (.inl rfl) e
  | met f y =>
    have e : h.get? a = some (PySem.W.methodObj (.ref f) (.ref y)) := x
    show h'.get? a = some (PySem.W.methodObj (.ref f) (.ref y))
    exact k a _ (.inl rfl) e
  | ext φ => obtain ⟨p, ⟨o, e⟩, st⟩ := x; exact ⟨st _ _ p fun o q => k _ _ (.inl rfl) q, ⟨o, k _ _ (.inl rfl) e⟩, st⟩
theorem HOk.lt (x : HOk P w H h) (e : H a = some o) : a < h.objs.size := (x a o e).lt
theorem HOk.fresh (x : HOk P w H h) (e : h.objs.size ≤ a) : H a = none := by
  cases q : H a with
  | none => rfl
  | some u => exact absurd (Nat.lt_of_lt_of_le (x.lt q) e) (Nat.lt_irrefl _)
theorem HOk.kept (x : HOk P w H h) (k : ∀ b u, h.get? b = some u → h'.get? b = some u) : HOk P w H h' := fun a o e =>
  (x a o e).stay (fun b u _ q => k b u q) (fun _ q => q) fun _ _ q => q
theorem HOk.laid (x : HOk P w H h) (k : ∀ b u, h.get? b = some u → h'.get? b = some u) (hp : h.objs.size ≤ a) (new : ObjOk P w (upd H a o) h' a o) : HOk P w (upd H a o) h' := fun b u e => by
  have hn := x.fresh hp
  by_cases hb : b = a
  · subst hb; rw [upd_same] at e; cases e; exact new
  · rw [upd_ne hb] at e
    exact (x b u e).stay (fun c v _ q => k c v q) (fun c q => by rw [upd_ne (ne_of_none q hn)]; exact q) fun c xs q => by rw [upd_ne (ne_of_none q hn)]; exact q
end
def Rd (H : Hp) (a : Addr) (u : HO) : Prop := H a = some u ∨ ∃ o, H a = some (.frz o u)
theorem Rd.ok {P : Program} {w : World} {H : Hp} {h : Heap} {a : Addr} {u : HO} (r : Rd H a u) (x : HOk P w H h) : ObjOk P w H h a u := by
  rcases r with r | ⟨o, r⟩
  · exact x a u r
  · obtain ⟨_, q⟩ := x a _ r
    exact q
def Mut : Option HO → Prop
  | some (.lst _) => True
  | some (.dK _) => True
  | some (.dT _) => True
  | some (.set _ _) => True
  | some (.ins _ _ _) => True
  | some (.ext _) => True
  | _ => False
section
variable {P : Program} {w : World} {H : Hp} {h h' : Heap} {x e : Addr} {o' : HO}
theorem HOk.write (ok : HOk P w H h) (mu : Mut (H x)) (he : e = x ∨ H e = some (.own x)) (k : ∀ b u, b ≠ e → h.get? b = some u → h'.get? b = some u) (heo : ∃ u, h'.get? e = some u)
    (new : ObjOk P w (upd H x o') h' x o') : HOk P w (upd H x o') h' := fun b u q => by
  have nown : ∀ c y, H c = some (.own y) → c ≠ x := fun c y r z => by subst z; rw [r] at mu; exact mu
  have ntup : ∀ c xs, H c = some (.tup xs) → c ≠ x := fun c xs r z => by subst z; rw [r] at mu; exact mu
  by_cases hb : b = x
  · subst hb; rw [upd_same] at q; cases q; exact new
  · rw [upd_ne hb] at q
    by_cases hbe : b = e
    · have q' : H b = some (.own x) := by
        rcases he with z | z
        · exact absurd (hbe.trans z) hb
        · rw [hbe]; exact z
      rw [q] at q'; cases q'
      obtain ⟨v, hv⟩ := heo
      exact ⟨v, by rw [hbe]; exact hv⟩
    · refine (ok b u q).stay (fun c v hc r => k c v ?_ r) (fun c r => by rw [upd_ne (nown c b r)]; exact r) fun c xs r => by rw [upd_ne (ntup c xs r)]; exact r
      rcases hc with rfl | hc
      · exact hbe
      · rintro rfl
        rcases he with z | z
        · exact nown c b hc z
        · rw [hc] at z; cases z; exact hb rfl
end
structure Un (fs ex : List Addr) (H H' : Hp) (h h' : Heap) : Prop where
  keep : ∀ b o, h.get? b = some o → H b = none → b ∉ fs → b ∉ ex → h'.get? b = some o
  slot : ∀ b o, h.get? b = some o → H b = none → b ∈ fs → b ∉ ex → ∃ sl, h'.get? b = some { o with slots := sl }
  free : ∀ b o, h.get? b = some o → H b = none → b ∉ ex → H' b = none
  there : ∀ b o, h.get? b = some o → b ∉ ex → ∃ o', h'.get? b = some o'
  tups : ∀ b xs, H b = some (.tup xs) → H' b = some (.tup xs)
  frzs : ∀ b o u, H b = some (.frz o u) → H' b = some (.frz o u)
  tbls : ∀ b ps, H b = some (.tbl ps) → ∃ more, H' b = some (.tbl (ps ++ more))
section
variable {fs fs' ex ex' : List Addr} {H H1 H2 : Hp} {h h1 h2 h' : Heap} {a x e : Addr} {o : HO}
theorem Un.any (u : Un fs ex H H1 h h1) {b : Addr} {ob : Obj} (q : h.get? b = some ob) (n : H b = none) (hx : b ∉ ex) : ∃ sl, h1.get? b = some { ob with slots := sl } := by
  by_cases hb : b ∈ fs
  · exact u.slot b ob q n hb hx
  · exact ⟨ob.slots, u.keep b ob q n hb hx⟩
theorem Un.kept (k : ∀ b u, h.get? b = some u → h'.get? b = some u) : Un fs ex H H h h' :=
  ⟨fun b ob q _ _ _ => k b ob q, fun b ob q _ _ _ => ⟨ob.slots, k b ob q⟩, fun _ _ _ n _ => n, fun b ob q _ => ⟨ob, k b ob q⟩, fun _ _ q => q, fun _ _ _ q => q, fun _ ps q => ⟨#[], by rw [q]; simp⟩⟩
theorem Un.refl : Un fs ex H H h h := Un.kept fun _ _ q => q
theorem Un.laid (k : ∀ b u, h.get? b = some u → h'.get? b = some u) (hp : h.objs.size ≤ a) (hn : H a = none) : Un fs ex H (upd H a o) h h' where
  keep := fun b u q _ _ _ => k b u q
  slot := fun b u q _ _ _ => ⟨u.slots, k b u q⟩
  free := fun b u q n _ => by rw [upd_ne (Nat.ne_of_lt (Nat.lt_of_lt_of_le (Heap.lt_size q) hp))]; exact n
  there := fun b u q _ => ⟨u, k b u q⟩
  tups := fun b xs q => by rw [upd_ne (ne_of_none q hn)]; exact q
  frzs := fun b u xs q => by rw [upd_ne (ne_of_none q hn)]; exact q
  tbls := fun b ps q => ⟨#[], by rw [upd_ne (ne_of_none q hn), q]; simp⟩
theorem Un.write (mu : Mut (H x)) (he : e = x ∨ H e = some (.own x)) (k : ∀ b u, b ≠ e → h.get? b = some u → h'.get? b = some u) (heo : ∃ u, h'.get? e = some u) : Un fs ex H (upd H x o) h h' := by
  have hx : ∀ b, H b = none → b ≠ x := fun b n z => by subst z; rw [n] at mu; exact mu
  have hb : ∀ b, H b = none → b ≠ e := fun b n z => by
    subst z
    rcases he with r | r
    · exact hx b n r
    · rw [n] at r; cases r
  have hm : ∀ b u, H b = some u → ¬ Mut (some u) → b ≠ x := fun b u q nm z => by subst z; rw [q] at mu; exact nm mu
  refine ⟨fun b u q n _ _ => k b u (hb b n) q, fun b u q n _ _ => ⟨u.slots, k b u (hb b n) q⟩, fun b u q n _ => by rw [upd_ne (hx b n)]; exact n, fun b u q _ => ?_,
    fun b xs q => by rw [upd_ne (hm b _ q fun z => z)]; exact q, fun b u xs q => by rw [upd_ne (hm b _ q fun z => z)]; exact q, fun b ps q => ⟨#[], by rw [upd_ne (hm b _ q fun z => z), q]; simp⟩⟩
  by_cases hbe : b = e
  · subst hbe; exact heo
  · exact ⟨u, k b u hbe q⟩
end
def trk (h : Heap) (H : Hp) : List Addr := (List.range h.objs.size).filter fun a => (H a).isSome
def hidT (h : Heap) (H : Hp) : Heap := PySem.W.hideAll h (trk h H)
theorem hidT_size (h : Heap) (H : Hp) : (hidT h H).objs.size = h.objs.size := PySem.W.hideAll_size _ _
theorem hidT_get {h : Heap} {H : Hp} {b : Addr} {o : Obj} (e : h.get? b = some o) (n : H b = none) : (hidT h H).get? b = some o :=
  PySem.W.hideAll_get _ e fun hm => by
    have q : (H b).isSome = true := (List.mem_filter.mp hm).2
    rw [n] at q; simp at q
theorem of_hidT {h : Heap} {H : Hp} {b : Addr} {o : Obj} (e : (hidT h H).get? b = some o) : h.get? b = some o ∧ H b = none := by
  have e' : h.get? b = some o := PySem.W.of_hideAll (trk h H) e
  refine ⟨e', ?_⟩
  cases q : H b with
  | none => rfl
  | some x =>
    have hm : b ∈ trk h H := List.mem_filter.mpr ⟨List.mem_range.mpr (Heap.lt_size e'), by simp [q]⟩
    have z : (hidT h H).get? b = none := PySem.W.hideAll_none (trk h H) hm
    rw [z] at e; cases e
end L2
namespace L2
open PySem PySem.Spec PyProof.Rows
structure Mod (K : PySem.W.Frag) (mg : Str → Option Value) (base : Heap) : Prop where
  kin : K.In base
  glob : base.Ns mainGlobals mg
  blt : ∃ mb, base.Ns builtinsNs mb ∧ ∀ x : Str, x ≠ "__name__" → mb x = bootBuiltins x
  nolimit : base.NoLimit
def ChainH (H : Hp) (e : Addr) : Prop := ∃ o u vs D, H e = some (.frz o u) ∧ o.cls = .ref D ∧ o.data = .fields vs ∧ (vs[2]? = some .none ∨ ∃ r o2 u2 ws D2, vs[2]? = some (.ref r) ∧ r ≠ e ∧ H r = some (.frz o2 u2) ∧ o2.cls = .ref D2 ∧ o2.data = .fields ws ∧ ws[2]? = some .none)
def Hnd (hd : Option Value) (H : Hp) : Prop := hd = none ∨ ∃ e, hd = some (.ref e) ∧ ChainH H e
structure Cx where
  prog : Program
  w : World
  K : PySem.W.Frag
  mg : Str → Option Value
  base : Heap
  A : Around
  N : List Str
  s₀ : Shared
  H₀ : Hp
  env : Env
  outer : List Env
  stack : List Env
  ex : List Addr
  fn : Str → Bool
  calm : Bool
  mild : Bool
  pn : List (Addr × Obj)
  xe : Value → Shared → Prop
def frs (l : List Env) : List Addr := l.filterMap (·.frame)
abbrev Cx.fs (X : Cx) : List Addr := frs X.outer
def Vis (sc : Scope) (x : Str) : Prop := sc.names.lookup x = some .local ∨ sc.names.lookup x = some .cell ∨ sc.names.lookup x = some .free
def Loc (sc : Scope) (x : Str) : Prop := sc.names.lookup x = some .local ∨ sc.names.lookup x = some .cell
def Look (env : Env) (h : Heap) (m : Str → Option Value) (x : Str) (u : Value) : Prop :=
  (env.kindOf x = some .local ∧ m x = some u) ∨ ((env.kindOf x = some .cell ∨ env.kindOf x = some .free) ∧ ∃ c, env.cells.lookup x = some c ∧ h.IsCell c (some u))
structure Cx.Ok (X : Cx) : Prop where
  mod : Mod X.K X.mg X.base
  kind : X.env.scope.kind = .function
  glob : X.env.globals = mainGlobals
  blt : X.env.builtins = builtinsNs
  above : X.s₀.heap.objs.size ≤ X.env.locals
  inj : ∀ x y c, X.env.cells.lookup x = some c → X.env.cells.lookup y = some c → x = y
  has : ∀ x, (X.env.kindOf x = some .cell ∨ X.env.kindOf x = some .free) → ∃ c, X.env.cells.lookup x = some c
  cab : ∀ x c, X.fn x = true → X.env.cells.lookup x = some c → X.s₀.heap.objs.size ≤ c
  hd : X.calm = true → X.A.handled = none
  hm : X.mild = true → Hnd X.A.handled X.H₀
  frames : X.A.frames = some X.stack
  stk : X.stack = X.outer ∨ (X.stack = X.env :: X.outer ∧ X.env.frame = some X.env.locals)
  exf : ∀ b ∈ X.ex, b ≠ X.env.locals ∧ ∀ x c, X.env.cells.lookup x = some c → c ≠ b
  bs : ∀ b o, X.base.get? b = some o → X.s₀.heap.get? b = some o ∧ X.H₀ b = none
  bsz : X.base.objs.size ≤ X.s₀.heap.objs.size
  noex : ∀ b o, X.base.get? b = some o → b ∉ X.ex
  exfs : ∀ b ∈ X.ex, b ∉ X.fs
  funs : X.s₀.heap.FunFrames X.base X.outer
  frf : ∀ b ∈ X.fs, X.H₀ b = none
structure Inv (X : Cx) (pins : List (Addr × Obj)) (σ : List (Option V)) (H : Hp) (s : Shared) : Prop where
  ok : X.Ok
  os : s.os = X.s₀.os
  bare : AllBare s.gens
  base : Un X.fs X.ex X.H₀ H X.s₀.heap s.heap
  loc : ∃ m, s.heap.Ns X.env.locals m ∧ ∀ (i : Nat) (x : Str) (v : V), X.N[i]? = some x → σ[i]? = some (some v) → Vis X.env.scope x → ∃ u, RelV v u ∧ Look X.env s.heap m x u
  cell : ∀ x c, X.env.cells.lookup x = some c → ∃ v, s.heap.IsCell c v
  free : H X.env.locals = none
  freeC : ∀ x c, X.env.cells.lookup x = some c → H c = none
  pin : ∀ p ∈ X.pn ++ pins, s.heap.get? p.1 = some p.2 ∧ H p.1 = none ∧ p.1 ≠ X.env.locals ∧ p.1 ∉ X.fs ∧ ∀ v, p.2.data ≠ .cell v
  hok : HOk X.prog X.w H s.heap
  len : σ.length = X.N.length
section
variable {X : Cx} {pins : List (Addr × Obj)} {σ : List (Option V)} {H H' : Hp} {s : Shared} {h' : Heap}
theorem Cx.Ok.nofr (ok : X.Ok) {b : Addr} {o : Obj} (e : X.base.get? b = some o) : b ∉ X.fs := fun hb => by
  have := (ok.funs.mem hb).1
  rw [e] at this; cases this
theorem Inv.bs (I : Inv X pins σ H s) : ∀ b o, X.base.get? b = some o → s.heap.get? b = some o ∧ H b = none := fun b o e =>
  ⟨I.base.keep b o (I.ok.bs b o e).1 (I.ok.bs b o e).2 (I.ok.nofr e) (I.ok.noex b o e), I.base.free b o (I.ok.bs b o e).1 (I.ok.bs b o e).2 (I.ok.noex b o e)⟩
theorem Inv.bk (I : Inv X pins σ H s) : ∀ b o, X.base.get? b = some o → s.heap.get? b = some o := fun b o e => (I.bs b o e).1
theorem Inv.mod (I : Inv X pins σ H s) : Mod X.K X.mg X.base := I.ok.mod
theorem Inv.kIn (I : Inv X pins σ H s) : X.K.In s.heap := I.ok.mod.kin.keeps I.bk
theorem Inv.lt (I : Inv X pins σ H s) : X.env.locals < s.heap.objs.size := let ⟨_, hn, _⟩ := I.loc; hn.lt
theorem Inv.sz (I : Inv X pins σ H s) : X.s₀.heap.objs.size ≤ s.heap.objs.size := Nat.le_trans I.ok.above (Nat.le_of_lt I.lt)
theorem Inv.nofs (I : Inv X pins σ H s) {a : Addr} (h : s.heap.objs.size ≤ a) : a ∉ X.fs := fun hb => by
  obtain ⟨_, o, ho, _⟩ := I.ok.funs.mem hb
  exact absurd (Nat.lt_of_lt_of_le (Heap.lt_size ho) (Nat.le_trans I.sz h)) (Nat.lt_irrefl _)
theorem Inv.cne (I : Inv X pins σ H s) : ∀ x c, X.env.cells.lookup x = some c → c ≠ X.env.locals := fun x c e z => by
  obtain ⟨v, o, ho, hd⟩ := I.cell x c e
  obtain ⟨m, ⟨o', es, ep, ho', hd', _⟩, _⟩ := I.loc
  rw [z, ho'] at ho; cases ho; rw [hd'] at hd; cases hd
theorem Inv.funs (I : Inv X pins σ H s) : s.heap.FunFrames X.base X.outer := by
  have all : ∀ (l : List Env), (∀ b ∈ frs l, b ∈ X.fs) → X.s₀.heap.FunFrames X.base l → s.heap.FunFrames X.base l := by
    intro l
    induction l with
    | nil => intro _ _; trivial
    | cons env r ih =>
      intro hs hl
      obtain ⟨hk, ⟨L, o, hf, hn, ho, hd⟩, hr⟩ := hl
      have hL : L ∈ X.fs := hs L (by unfold frs; rw [List.filterMap_cons, hf]; exact List.mem_cons_self)
      obtain ⟨sl, e⟩ := I.base.slot L o ho (I.ok.frf L hL) hL fun z => I.ok.exfs L z hL
      exact ⟨hk, ⟨L, _, hf, hn, e, hd⟩, ih (fun b hb => hs b (by unfold frs; rw [List.filterMap_cons, hf]; exact List.mem_cons_of_mem _ hb)) hr⟩
  exact all X.outer (fun _ hb => hb) I.ok.funs
theorem Inv.stack (I : Inv X pins σ H s) : s.heap.FunFrames X.base X.stack := by
  rcases I.ok.stk with e | ⟨e, hf⟩
  · rw [e]; exact I.funs
  · rw [e]
    obtain ⟨m, hn, _⟩ := I.loc
    refine .cons (by rw [I.ok.kind]; decide) hf hn ?_ I.funs
    exact Heap.get?_none_of_le (Nat.le_trans I.ok.bsz I.ok.above)
theorem Inv.stkSub (I : Inv X pins σ H s) : ∀ b ∈ frs X.stack, b ∈ X.env.locals :: X.fs := fun b hb => by
  rcases I.ok.stk with e | ⟨e, hf⟩
  · rw [e] at hb; exact List.mem_cons_of_mem _ hb
  · rw [e] at hb
    unfold frs at hb
    rw [List.filterMap_cons, hf] at hb
    exact hb
theorem Inv.stkFree (I : Inv X pins σ H s) : ∀ b ∈ frs X.stack, H b = none := fun b hb => by
  rcases List.mem_cons.mp (I.stkSub b hb) with e | hb
  · rw [e]; exact I.free
  · obtain ⟨_, o, ho, _⟩ := I.ok.funs.mem hb
    exact I.base.free b o ho (I.ok.frf b hb) fun z => I.ok.exfs b z hb
theorem Inv.step {g' : Array GenState} {t' : Nat} {d' : Drawn} {ch : List Addr} (I : Inv X pins σ H s)
    (hch : ∀ b ∈ ch, (b ∈ X.ex ∨ X.s₀.heap.objs.size ≤ b) ∧ b ≠ X.env.locals ∧ (∀ x c, X.env.cells.lookup x = some c → c ≠ b) ∧ ∀ p ∈ X.pn ++ pins, p.1 ≠ b)
    (keep : ∀ b o, b ≠ X.env.locals → b ∉ X.fs → b ∉ ch → s.heap.get? b = some o → H b = none → h'.get? b = some o)
    (slot : ∀ b o, b ≠ X.env.locals → b ∈ X.fs → b ∉ ch → s.heap.get? b = some o → H b = none → ∃ sl, h'.get? b = some { o with slots := sl }) (free : ∀ b o, b ∉ ch → s.heap.get? b = some o → H b = none → H' b = none)
    (there : ∀ b o, b ∉ ch → s.heap.get? b = some o → ∃ o', h'.get? b = some o')
    (tups : ∀ b xs, H b = some (.tup xs) → H' b = some (.tup xs)) (frzs : ∀ b o u, H b = some (.frz o u) → H' b = some (.frz o u)) (tbls : ∀ b ps, H b = some (.tbl ps) → ∃ more, H' b = some (.tbl (ps ++ more)))
    (ns : ∀ m, s.heap.Ns X.env.locals m → h'.Ns X.env.locals m) (hok : HOk X.prog X.w H' h') (hg : AllBare g') :
    Inv X pins σ H' { s with heap := h', gens := g', drawn := d', toks := t' } := by
  have neL : ∀ b o, X.s₀.heap.get? b = some o → b ≠ X.env.locals := fun b o e => Nat.ne_of_lt (Nat.lt_of_lt_of_le (Heap.lt_size e) I.ok.above)
  have neC : ∀ b o, X.s₀.heap.get? b = some o → b ∉ X.ex → b ∉ ch := fun b o e hx hb => by
    rcases (hch b hb).1 with z | z
    · exact hx z
    · exact absurd (Nat.lt_of_lt_of_le (Heap.lt_size e) z) (Nat.lt_irrefl _)
  have cellK : ∀ x c, X.env.cells.lookup x = some c → ∀ v, s.heap.IsCell c v → h'.IsCell c v := fun x c e v ⟨o, ho, hd⟩ => by
    have nch : c ∉ ch := fun z => (hch c z).2.2.1 x c e rfl
    by_cases hc : c ∈ X.fs
    · obtain ⟨sl, q⟩ := slot c o (I.cne x c e) hc nch ho (I.freeC x c e)
      exact ⟨_, q, hd⟩
    · exact ⟨o, keep c o (I.cne x c e) hc nch ho (I.freeC x c e), hd⟩
  refine ⟨I.ok, I.os, hg, ⟨fun b o e n hb hx => ?_, fun b o e n hb hx => ?_, fun b o e n hx => ?_, fun b o e hx => ?_, fun b xs e => tups b xs (I.base.tups b xs e), fun b o xs e => frzs b o xs (I.base.frzs b o xs e), fun b ps e => ?_⟩, ?_, fun x c e => ?_, ?_, fun x c e => ?_, fun p hp => ?_, hok, I.len⟩
  · exact keep b o (neL b o e) hb (neC b o e hx) (I.base.keep b o e n hb hx) (I.base.free b o e n hx)
  · obtain ⟨sl, e1⟩ := I.base.slot b o e n hb hx
    obtain ⟨sl', e2⟩ := slot b _ (neL b o e) hb (neC b o e hx) e1 (I.base.free b o e n hx)
    exact ⟨sl', e2⟩
  · obtain ⟨o', e1⟩ := I.base.there b o e hx
    exact free b o' (neC b o e hx) e1 (I.base.free b o e n hx)
  · obtain ⟨o', e1⟩ := I.base.there b o e hx
    exact there b o' (neC b o e hx) e1
  · obtain ⟨m1, e1⟩ := I.base.tbls b ps e
    obtain ⟨m2, e2⟩ := tbls b _ e1
    exact ⟨m1 ++ m2, by rw [e2, Array.append_assoc]⟩
  · obtain ⟨m, hn, hl⟩ := I.loc
    refine ⟨m, ns m hn, fun i x v e1 e2 e3 => ?_⟩
    obtain ⟨u, r, l⟩ := hl i x v e1 e2 e3
    refine ⟨u, r, ?_⟩
    rcases l with l | ⟨k, c, e, z⟩
    · exact .inl l
    · exact .inr ⟨k, c, e, cellK x c e _ z⟩
  · obtain ⟨v, z⟩ := I.cell x c e
    exact ⟨v, cellK x c e v z⟩
  · obtain ⟨m, ⟨o, _, _, ho, _⟩, _⟩ := I.loc
    exact free _ o (fun z => (hch _ z).2.1 rfl) ho I.free
  · obtain ⟨v, o, ho, hd⟩ := I.cell x c e
    exact free c o (fun z => (hch c z).2.2.1 x c e rfl) ho (I.freeC x c e)
  · obtain ⟨e, n, ne, nf, d⟩ := I.pin p hp
    have nch : p.1 ∉ ch := fun z => (hch p.1 z).2.2.2 p hp rfl
    exact ⟨keep p.1 p.2 ne nf nch e n, free p.1 p.2 nch e n, ne, nf, d⟩
theorem Inv.un {t' : Nat} (I : Inv X pins σ H s) (u : Un X.fs [] H H' s.heap h') (hok : HOk X.prog X.w H' h') : Inv X pins σ H' { s with heap := h', toks := t' } := by
  obtain ⟨m, ⟨o, es, ep, ho, r⟩, _⟩ := id I.loc
  obtain ⟨sl, hL⟩ := u.any ho I.free (by simp)
  exact I.step (g' := s.gens) (d' := s.drawn) (ch := []) (fun _ z => nomatch z) (fun b o _ hb _ e n => u.keep b o e n hb (by simp)) (fun b o _ hb _ e n => u.slot b o e n hb (by simp)) (fun b o _ e n => u.free b o e n (by simp)) (fun b o _ e => u.there b o e (by simp)) u.tups u.frzs u.tbls (fun m' hm => by
    obtain ⟨o', es', ep', ho', r'⟩ := hm
    rw [ho] at ho'; cases ho'
    exact ⟨_, es', ep', hL, r'⟩) hok I.bare
theorem Inv.call {g' : Array GenState} {t' : Nat} {d' : Drawn} {ch : List Addr} (I : Inv X pins σ H s) (u : Un (frs X.stack) ch H H' s.heap h') (hok : HOk X.prog X.w H' h') (hg : AllBare g')
    (hch : ∀ b ∈ ch, (b ∈ X.ex ∨ X.s₀.heap.objs.size ≤ b) ∧ b ≠ X.env.locals ∧ (∀ x c, X.env.cells.lookup x = some c → c ≠ b) ∧ ∀ p ∈ X.pn ++ pins, p.1 ≠ b) :
    Inv X pins σ H' { s with heap := h', gens := g', drawn := d', toks := t' } := by
  obtain ⟨m, ⟨o, es, ep, ho, r⟩, _⟩ := id I.loc
  obtain ⟨sl, hL⟩ := u.any ho I.free fun z => (hch _ z).2.1 rfl
  exact I.step (ch := ch) hch (fun b o hL hb hc e n => u.keep b o e n (fun z => (List.mem_cons.mp (I.stkSub b z)).elim hL hb) hc) (fun b o _ _ hc e n => u.any e n hc) (fun b o hc e n => u.free b o e n hc) (fun b o hc e => u.there b o e hc) u.tups u.frzs u.tbls (fun m' hm => by
    obtain ⟨o', es', ep', ho', r'⟩ := hm
    rw [ho] at ho'; cases ho'
    exact ⟨_, es', ep', hL, r'⟩) hok hg
theorem Inv.turned {t' : Nat} {it : Addr} (I : Inv X pins σ H s) (k : ∀ b o, b ≠ it → s.heap.get? b = some o → h'.get? b = some o) (hn : H it = none) (hL : it ≠ X.env.locals)
    (h1 : it ∈ X.ex ∨ X.s₀.heap.objs.size ≤ it) (h2 : ∀ x c, X.env.cells.lookup x = some c → c ≠ it) (h3 : ∀ p ∈ X.pn ++ pins, p.1 ≠ it) : Inv X pins σ H { s with heap := h', toks := t' } := by
  have nit : ∀ b u, H b = some u → b ≠ it := fun b u e z => by rw [z, hn] at e; cases e
  refine I.step (g' := s.gens) (d' := s.drawn) (ch := [it]) (fun b hb => ?_) (fun b o _ _ hc e _ => k b o (fun z => hc (by simp [z])) e) (fun b o _ _ hc e _ => ⟨o.slots, k b o (fun z => hc (by simp [z])) e⟩) (fun _ _ _ _ n => n)
    (fun b o hc e => ⟨o, k b o (fun z => hc (by simp [z])) e⟩) (fun _ _ e => e) (fun _ _ _ e => e) (fun b ps e => ⟨#[], by rw [e]; simp⟩) (fun m hm => ?_) (fun b u e => ?_) I.bare
  · have e : b = it := by simpa using hb
    subst e
    exact ⟨h1, hL, h2, h3⟩
  · obtain ⟨o, es, ep, ho, r⟩ := hm
    exact ⟨o, es, ep, k _ o (Ne.symm hL) ho, r⟩
  · refine (I.hok b u e).stay (fun c v hc q => k c v ?_ q) (fun _ q => q) fun _ _ q => q
    rcases hc with z | z
    · rw [z]; exact nit b u e
    · exact nit c _ z
theorem Inv.tok (I : Inv X pins σ H s) (t : Nat) : Inv X pins σ H { s with toks := t } := I.un (h' := s.heap) (t' := t) Un.refl I.hok
theorem Inv.kept {t' : Nat} (I : Inv X pins σ H s) (k : ∀ b u, s.heap.get? b = some u → h'.get? b = some u) : Inv X pins σ H { s with heap := h', toks := t' } := I.un (Un.kept k) (I.hok.kept k)
theorem Inv.laid {a : Addr} {o : HO} {t' : Nat} (I : Inv X pins σ H s) (k : ∀ b u, s.heap.get? b = some u → h'.get? b = some u) (hp : s.heap.objs.size ≤ a) (new : ObjOk X.prog X.w (upd H a o) h' a o) :
    Inv X pins σ (upd H a o) { s with heap := h', toks := t' } := I.un (Un.laid k hp (I.hok.fresh hp)) (I.hok.laid k hp new)
theorem Inv.write {x e : Addr} {o : HO} {t' : Nat} (I : Inv X pins σ H s) (mu : Mut (H x)) (he : e = x ∨ H e = some (.own x)) (k : ∀ b u, b ≠ e → s.heap.get? b = some u → h'.get? b = some u) (heo : ∃ u, h'.get? e = some u)
    (new : ObjOk X.prog X.w (upd H x o) h' x o) : Inv X pins σ (upd H x o) { s with heap := h', toks := t' } := I.un (Un.write mu he k heo) (I.hok.write mu he k heo new)
theorem Inv.weak {σ' : List (Option V)} (I : Inv X pins σ H s) (hl : σ'.length = σ.length) (w : ∀ (i : Nat) v, σ'[i]? = some (some v) → σ[i]? = some (some v)) : Inv X pins σ' H s :=
  ⟨I.ok, I.os, I.bare, I.base, let ⟨m, hn, hl'⟩ := I.loc; ⟨m, hn, fun i x v e1 e2 e3 => hl' i x v e1 (w i v e2) e3⟩, I.cell, I.free, I.freeC, I.pin, I.hok, hl.trans I.len⟩
theorem Inv.pins_of {pins' : List (Addr × Obj)} (I : Inv X pins σ H s) (h : ∀ p ∈ pins', s.heap.get? p.1 = some p.2 ∧ H p.1 = none ∧ p.1 ≠ X.env.locals ∧ p.1 ∉ X.fs ∧ ∀ v, p.2.data ≠ .cell v) : Inv X pins' σ H s :=
  ⟨I.ok, I.os, I.bare, I.base, I.loc, I.cell, I.free, I.freeC, fun p hp => (List.mem_append.mp hp).elim (fun z => I.pin p (List.mem_append_left _ z)) (h p), I.hok, I.len⟩
theorem nodup_ix {N : List Str} (hN : N.Nodup) {i j : Nat} {x : Str} (a : N[i]? = some x) (b : N[j]? = some x) : i = j := by
  obtain ⟨h1, e1⟩ := List.getElem?_eq_some_iff.mp a
  obtain ⟨h2, e2⟩ := List.getElem?_eq_some_iff.mp b
  exact (List.getElem_inj hN).mp (e1.trans e2.symm)
theorem store_ok2 {M : Model} {A : Around} {E : Value → Shared → Prop} {i : Nat} {x : Str} {v : V} {u : Value} {Q : Unit → Shared → Prop} (I : Inv X pins σ H s) (hN : X.N.Nodup) (hi : X.N[i]? = some x) (hx : Loc X.env.scope x) (r : RelV v u)
    (h : ∀ s', Inv X pins (σ.set i (some v)) H s' → (∃ a, Heap.SameBut a s.heap s'.heap ∧ (a = X.env.locals ∨ X.env.cells.lookup x = some a)) → Q () s') (hf : X.fn x = true ∨ X.env.scope.names.lookup x = some .local := by first | exact .inl rfl | exact .inr rfl | assumption) : wpAny M A (storeName X.env x u) Q E s := by
  obtain ⟨m, hn, hl⟩ := id I.loc
  have hcls : (X.env.scope.kind == .class || (X.env.scope.kind == .module && X.env.locals != X.env.globals)) = false := by rw [I.ok.kind]; rfl
  have hiσ : i < σ.length := by rw [I.len]; exact (List.getElem?_eq_some_iff.mp hi).1
  have cne := I.cne
  have tracked : ∀ {a : Addr} {h' : Heap}, (∃ o, s.heap.get? a = some o ∧ H a = none) → Heap.SameBut a s.heap h' → HOk X.prog X.w H h' := fun {a h'} ha hs b ob e => by
    obtain ⟨_, _, hfree⟩ := ha
    refine (I.hok b ob e).stay (fun c w' hc q => (hs.2 c ?_).trans q) (fun _ q => q) fun _ _ q => q
    rintro rfl
    rcases hc with rfl | hc
    · rw [hfree] at e; cases e
    · rw [hfree] at hc; cases hc
  rcases hx with hk | hk
  · refine wpAny_storeName_local hk hn (fun h' hn' hs => ?_) hcls
    obtain ⟨oL, _, _, hoL, _⟩ := id hn
    refine h _ ⟨I.ok, I.os, I.bare, ⟨fun b o e n hb hx => ?_, fun b o e n hb hx => ?_, I.base.free, fun b o e hx => ?_, I.base.tups, I.base.frzs, I.base.tbls⟩, ⟨_, hn', fun j y v' e1 e2 e3 => ?_⟩, fun y c e => ?_, I.free, I.freeC, fun p hp => ?_, tracked ⟨oL, hoL, I.free⟩ hs, by simpa using I.len⟩ ⟨_, hs, .inl rfl⟩
    · exact (hs.2 b (Nat.ne_of_lt (Nat.lt_of_lt_of_le (Heap.lt_size e) I.ok.above))).trans (I.base.keep b o e n hb hx)
    · obtain ⟨sl, e1⟩ := I.base.slot b o e n hb hx
      exact ⟨sl, (hs.2 b (Nat.ne_of_lt (Nat.lt_of_lt_of_le (Heap.lt_size e) I.ok.above))).trans e1⟩
    · obtain ⟨o', e1⟩ := I.base.there b o e hx
      exact ⟨o', (hs.2 b (Nat.ne_of_lt (Nat.lt_of_lt_of_le (Heap.lt_size e) I.ok.above))).trans e1⟩
    · by_cases hj : j = i
      · subst hj
        rw [hi] at e1; cases e1
        rw [List.getElem?_set_self hiσ] at e2
        cases e2
        exact ⟨u, r, .inl ⟨hk, by simp⟩⟩
      · rw [List.getElem?_set_ne (Ne.symm hj)] at e2
        obtain ⟨u', r', q⟩ := hl j y v' e1 e2 e3
        refine ⟨u', r', ?_⟩
        rcases q with ⟨k, e⟩ | ⟨k, c, e, z⟩
        · refine .inl ⟨k, ?_⟩
          have : y ≠ x := fun e => hj (nodup_ix hN e1 (e ▸ hi))
          simp [this, e]
        · exact .inr ⟨k, c, e, z.sameBut hs (cne y c e)⟩
    · obtain ⟨w', z⟩ := I.cell y c e
      exact ⟨w', z.sameBut hs (cne y c e)⟩
    · obtain ⟨e, n, ne, nf, d⟩ := I.pin p hp
      exact ⟨(hs.2 p.1 ne).trans e, n, ne, nf, d⟩
  · have hfn : X.fn x = true := by
      rcases hf with z | z
      · exact z
      · rw [z] at hk; cases hk
    obtain ⟨c, hc⟩ := I.ok.has x (.inl hk)
    obtain ⟨w', z⟩ := I.cell x c hc
    refine wpAny_storeName_cell I.ok.kind hk hc z (fun h' hc' hs => ?_)
    obtain ⟨oc, hoc, hocd⟩ := id z
    refine h { s with heap := h' } ⟨I.ok, I.os, I.bare, ⟨fun b o e n hb hx => ?_, fun b o e n hb hx => ?_, I.base.free, fun b o e hx => ?_, I.base.tups, I.base.frzs, I.base.tbls⟩, ⟨m, hn.sameBut hs (Ne.symm (cne x c hc)), fun j y v' e1 e2 e3 => ?_⟩, fun y c' e => ?_, I.free, I.freeC, fun p hp => ?_, tracked ⟨oc, hoc, I.freeC x c hc⟩ hs, by simpa using I.len⟩ ⟨c, hs, .inr hc⟩
    · exact (hs.2 b (Nat.ne_of_lt (Nat.lt_of_lt_of_le (Heap.lt_size e) (I.ok.cab x c hfn hc)))).trans (I.base.keep b o e n hb hx)
    · obtain ⟨sl, e1⟩ := I.base.slot b o e n hb hx
      exact ⟨sl, (hs.2 b (Nat.ne_of_lt (Nat.lt_of_lt_of_le (Heap.lt_size e) (I.ok.cab x c hfn hc)))).trans e1⟩
    · obtain ⟨o', e1⟩ := I.base.there b o e hx
      exact ⟨o', (hs.2 b (Nat.ne_of_lt (Nat.lt_of_lt_of_le (Heap.lt_size e) (I.ok.cab x c hfn hc)))).trans e1⟩
    · by_cases hj : j = i
      · subst hj
        rw [hi] at e1; cases e1
        rw [List.getElem?_set_self hiσ] at e2
        cases e2
        exact ⟨u, r, .inr ⟨.inl hk, c, hc, hc'⟩⟩
      · rw [List.getElem?_set_ne (Ne.symm hj)] at e2
        obtain ⟨u', r', q⟩ := hl j y v' e1 e2 e3
        refine ⟨u', r', ?_⟩
        rcases q with q | ⟨k, c', e, z'⟩
        · exact .inl q
        · refine .inr ⟨k, c', e, z'.sameBut hs ?_⟩
          rintro rfl
          exact hj (nodup_ix hN e1 (I.ok.inj _ _ _ e hc ▸ hi))
    · by_cases hcc : c' = c
      · subst hcc; exact ⟨_, hc'⟩
      · obtain ⟨w2, z2⟩ := I.cell y c' e
        exact ⟨w2, z2.sameBut hs hcc⟩
    · obtain ⟨e, n, ne, nf, d⟩ := I.pin p hp
      refine ⟨(hs.2 p.1 ?_).trans e, n, ne, nf, d⟩
      intro q
      rw [q, hoc] at e
      have q' : oc = p.2 := Option.some.inj e
      exact d w' (by rw [← q']; exact hocd)
theorem store_ok {M : Model} {A : Around} {E : Value → Shared → Prop} {i : Nat} {x : Str} {v : V} {u : Value} {Q : Unit → Shared → Prop} (I : Inv X pins σ H s) (hN : X.N.Nodup) (hi : X.N[i]? = some x) (hx : Loc X.env.scope x) (r : RelV v u)
    (h : ∀ s', Inv X pins (σ.set i (some v)) H s' → Q () s') (hf : X.fn x = true ∨ X.env.scope.names.lookup x = some .local := by first | exact .inl rfl | exact .inr rfl | assumption) : wpAny M A (storeName X.env x u) Q E s :=
  store_ok2 I hN hi hx r (fun s' I' _ => h s' I') hf
theorem Inv.call' {s' : Shared} {ch : List Addr} (I : Inv X pins σ H s) (ho : s'.os = s.os) (u : Un (frs X.stack) ch H H' s.heap s'.heap) (hok : HOk X.prog X.w H' s'.heap) (hg : AllBare s'.gens)
    (hch : ∀ b ∈ ch, (b ∈ X.ex ∨ X.s₀.heap.objs.size ≤ b) ∧ b ≠ X.env.locals ∧ (∀ x c, X.env.cells.lookup x = some c → c ≠ b) ∧ ∀ p ∈ X.pn ++ pins, p.1 ≠ b) : Inv X pins σ H' s' := by
  obtain ⟨h', g', d', t', o'⟩ := s'
  have e : o' = s.os := ho
  subst e
  exact I.call (g' := g') (t' := t') (d' := d') u hok hg hch
end
abbrev XK := Value → Option Addr → Hp → Prop
abbrev St := List (Option V)
abbrev VK := V → Hp → Prop
abbrev TE := St → Hp → VK → Prop
abbrev TT := St → Hp → (Bool → Hp → Prop) → Prop
abbrev TA := St → Hp → (List V → Hp → Prop) → Prop
structure Ends where
  nx : St → Hp → Prop
  rt : VK
  bk : St → Hp → Prop := fun _ _ => False
  ct : St → Hp → Prop := fun _ _ => False
abbrev TS := Ends → St → Hp → Prop
def EP (X : Cx) (pins : List (Addr × Obj)) (σ : St) (Q : VK) (u : Value) (s' : Shared) : Prop := ∃ v H', Inv X pins σ H' s' ∧ RelV v u ∧ Q v H'
def TP (X : Cx) (pins : List (Addr × Obj)) (σ : St) (Q : Bool → Hp → Prop) (b : Bool) (s' : Shared) : Prop := ∃ H', Inv X pins σ H' s' ∧ Q b H'
def AP (X : Cx) (pins : List (Addr × Obj)) (σ : St) (Q : List V → Hp → Prop) (us : List Value) (s' : Shared) : Prop := ∃ vs H', Inv X pins σ H' s' ∧ Vals vs us ∧ Q vs H'
def SP (X : Cx) (pins : List (Addr × Obj)) (D : Ends) (f : Flow) (s' : Shared) : Prop :=
  match f with
  | .next => ∃ σ' H', Inv X pins σ' H' s' ∧ D.nx σ' H'
  | .brk => ∃ σ' H', Inv X pins σ' H' s' ∧ D.bk σ' H'
  | .cont => ∃ σ' H', Inv X pins σ' H' s' ∧ D.ct σ' H'
  | .ret u => ∃ v σ' H', Inv X pins σ' H' s' ∧ RelV v u ∧ D.rt v H'
def PE (X : Cx) (e : Expr) (t : TE) : Prop :=
  ∀ (pins : List (Addr × Obj)) (s : Shared) (σ : St) (H : Hp) (Q : VK), Inv X pins σ H s → t σ H Q → wpAny (model X.prog X.w) X.A (eval e X.env) (EP X pins σ Q) X.xe s
def PT (X : Cx) (e : Expr) (t : TT) : Prop :=
  ∀ (pins : List (Addr × Obj)) (s : Shared) (σ : St) (H : Hp) (Q : Bool → Hp → Prop), Inv X pins σ H s → t σ H Q → wpAny (model X.prog X.w) X.A (isTrue e X.env (eval e X.env)) (TP X pins σ Q) X.xe s
def PW (X : Cx) (e : Expr) (t : TT) : Prop :=
  ∀ (whole : Sem Value) (pins : List (Addr × Obj)) (s : Shared) (σ : St) (H : Hp) (Q : Bool → Hp → Prop), Inv X pins σ H s → t σ H Q → wpAny (model X.prog X.w) X.A (isTrue e X.env whole) (TP X pins σ Q) X.xe s
theorem PW.pt {X : Cx} {e : Expr} {t : TT} (h : PW X e t) : PT X e t := h _
def PA (X : Cx) (es : List Expr) (t : TA) : Prop :=
  ∀ (pos : Pos) (pins : List (Addr × Obj)) (s : Shared) (σ : St) (H : Hp) (Q : List V → Hp → Prop), Inv X pins σ H s → t σ H Q → wpAny (model X.prog X.w) X.A (spliced (backTo pos (starEach es X.env))) (AP X pins σ Q) X.xe s
def PS (X : Cx) (st : Stmt) (t : TS) : Prop :=
  ∀ (pins : List (Addr × Obj)) (s : Shared) (σ : St) (H : Hp) (D : Ends), Inv X pins σ H s → t D σ H → wpAny (model X.prog X.w) X.A (exec st X.env) (SP X pins D) X.xe s
def PSs (X : Cx) (st : List Stmt) (t : TS) : Prop :=
  ∀ (pins : List (Addr × Obj)) (s : Shared) (σ : St) (H : Hp) (D : Ends), Inv X pins σ H s → t D σ H → wpAny (model X.prog X.w) X.A (execs st X.env) (SP X pins D) X.xe s
theorem thn {α : Type} {t : Sem α} {Q Q' : α → Shared → Prop} {M : Model} {A : Around} {E : Value → Shared → Prop} {s : Shared} (h : wpAny M A t Q E s) (hQ : ∀ a s, Q a s → Q' a s) : wpAny M A t Q' E s := wpAny_mono h hQ fun _ _ x => x
end L2
namespace L2
open PySem PySem.Spec PyProof.Rows
section
variable {X : Cx}
def tVar (i : Nat) : TE := fun σ H Q => ∃ v, σ[i]? = some (some v) ∧ Q v H
def tC (v : V) : TE := fun _ H Q => Q v H
theorem pe_var {i : Nat} {x : Str} {pos : Pos} (hN : X.N[i]? = some x) (hv : Vis X.env.scope x) (hd : (x == ("__debug__" : Str)) = false := by decide) (hcd : (x == ("__classdict__" : Str)) = false := by decide) : PE X (.Name x pos) (tVar i) := by
  intro pins s σ H Q I h
  obtain ⟨v, e, h⟩ := h
  obtain ⟨m, hn, hl⟩ := I.loc
  obtain ⟨u, r, l⟩ := hl i x v hN e hv
  have fin : EP X pins σ Q u s := ⟨v, H, I, r, h⟩
  rcases l with ⟨hk, hm⟩ | ⟨hk, c, hc, hcell⟩
  · exact wpAny_Name (wpAny_loadName_local I.ok.kind hk hn hm fin) hd
  · rcases hk with hk | hk
    · exact wpAny_Name (wpAny_loadName_cell I.ok.kind hk hc hcell fin) hd
    · exact wpAny_Name (wpAny_loadName_free I.ok.kind hk hc hcell fin hcd) hd
theorem pe_int {i j pos} : PE X (.Constant (.int i) j pos) (tC (.int i)) := fun _ _ _ H _ I h => wpAny_Constant_int ⟨.int i, H, I.tok _, ⟨_, rfl⟩, h⟩
theorem pe_bl {b j pos} : PE X (.Constant (.bool b) j pos) (tC (.bl b)) := fun _ _ _ H _ I h => Constant_bool ⟨.bl b, H, I, rfl, h⟩
theorem pe_str {x j pos} : PE X (.Constant (.str x) j pos) (tC (.str x)) := fun _ _ _ H _ I h => Calls.Constant_str ⟨.str x, H, I.tok _, ⟨_, rfl⟩, h⟩
def Gl (X : Cx) (x : Str) : Prop := X.env.kindOf x = some .globalImplicit
theorem ld_glob {E : Value → Shared → Prop} {pins : List (Addr × Obj)} {s : Shared} {σ : St} {H : Hp} {x : Str} {u : Value} {pos : Pos} {Q : Value → Shared → Prop} (I : Inv X pins σ H s) (hg : Gl X x) (hm : X.mg x = some u) (h : Q u s)
    (hd : (x == ("__debug__" : Str)) = false := by decide) : wpAny (model X.prog X.w) X.A (eval (.Name x pos) X.env) Q E s :=
  Calls.Name_function_global I.ok.kind hg (Calls.loadGlobal_global (by rw [I.ok.glob]; exact I.mod.glob.keeps I.bk) hm h) hd
theorem ld_blt {E : Value → Shared → Prop} {pins : List (Addr × Obj)} {s : Shared} {σ : St} {H : Hp} {x : Str} {u : Value} {pos : Pos} {Q : Value → Shared → Prop} (I : Inv X pins σ H s) (hg : Gl X x) (hm : X.mg x = none) (hv : bootBuiltins x = some u) (h : Q u s)
    (hn : x ≠ "__name__" := by decide) (hd : (x == ("__debug__" : Str)) = false := by decide) : wpAny (model X.prog X.w) X.A (eval (.Name x pos) X.env) Q E s := by
  obtain ⟨mb, h1, h2⟩ := I.mod.blt
  exact Calls.Name_function_global I.ok.kind hg (Calls.loadGlobal_builtin (by rw [I.ok.glob]; exact I.mod.glob.keeps I.bk) hm (by rw [I.ok.blt]; exact h1.keeps I.bk) ((h2 x hn).trans hv) h) hd
theorem pe_glob {x : Str} {v : V} {u : Value} {pos : Pos} (hg : Gl X x) (hm : X.mg x = some u) (r : RelV v u) (hd : (x == ("__debug__" : Str)) = false := by decide) : PE X (.Name x pos) (tC v) :=
  fun _ _ _ H _ I h => ld_glob I hg hm ⟨v, H, I, r, h⟩ hd
theorem pe_bltn {x : Str} {v : V} {u : Value} {pos : Pos} (hg : Gl X x) (hm : X.mg x = none) (hv : bootBuiltins x = some u) (r : RelV v u) (hn : x ≠ "__name__" := by decide) (hd : (x == ("__debug__" : Str)) = false := by decide) : PE X (.Name x pos) (tC v) :=
  fun _ _ _ H _ I h => ld_blt I hg hm hv ⟨v, H, I, r, h⟩ hn hd
variable {a b : Expr} {ta tb : TE} {pos : Pos}
def tB (t : TE) : TT := fun σ H Q => t σ H fun x H1 => ∃ c, x = .bl c ∧ Q c H1
theorem pt_val {e : Expr} {t : TE} (h : PE X e t) (he : ∀ whole, isTrue e X.env whole = (do let v ← whole; standAt e.pos; holding [v] (truthy v)) := by intro _; rfl) : PT X e (tB t) := by
  intro pins s σ H Q I hw
  refine isTrue_plain (thn (h pins s σ H _ I hw) fun v s1 ⟨x, H1, I1, r1, q1⟩ => ?_) (he _)
  obtain ⟨d, rfl, q⟩ := q1
  cases r1
  exact wpAny_truthy_bool ⟨H1, I1, q⟩
variable {tA tB' : TT} {rest : List Expr}
def tAnd (t u : TT) : TT := fun σ H Q => t σ H fun c H1 => if c = true then u σ H1 Q else Q false H1
def tOr (t u : TT) : TT := fun σ H Q => t σ H fun c H1 => if c = true then Q true H1 else u σ H1 Q
def tNot (t : TT) : TT := fun σ H Q => t σ H fun c H1 => Q (!c) H1
theorem pw_and1 (ha : PT X a tA) : PW X (.BoolOp .And [a] pos) tA := by
  intro wh pins s σ H Q I h
  refine isTrue_and (thn (ha pins s σ H Q I h) fun c s1 e => ?_)
  cases c with
  | true => exact isTrue_and_nil e
  | false => exact e
theorem pw_or1 (ha : PT X a tA) : PW X (.BoolOp .Or [a] pos) tA := by
  intro wh pins s σ H Q I h
  refine isTrue_or (thn (ha pins s σ H Q I h) fun c s1 e => ?_)
  cases c with
  | false => exact isTrue_or_nil e
  | true => exact e
theorem pw_and (ha : PT X a tA) (hb : PW X (.BoolOp .And (b :: rest) pos) tB') : PW X (.BoolOp .And (a :: b :: rest) pos) (tAnd tA tB') := by
  intro wh pins s σ H Q I h
  refine isTrue_and (thn (ha pins s σ H _ I h) fun c s1 ⟨H1, I1, q1⟩ => ?_)
  cases c with
  | true => exact hb wh pins s1 σ H1 Q I1 q1
  | false => exact ⟨H1, I1, q1⟩
theorem pw_or (ha : PT X a tA) (hb : PW X (.BoolOp .Or (b :: rest) pos) tB') : PW X (.BoolOp .Or (a :: b :: rest) pos) (tOr tA tB') := by
  intro wh pins s σ H Q I h
  refine isTrue_or (thn (ha pins s σ H _ I h) fun c s1 ⟨H1, I1, q1⟩ => ?_)
  cases c with
  | true => exact ⟨H1, I1, q1⟩
  | false => exact hb wh pins s1 σ H1 Q I1 q1
theorem pt_not (ha : PT X a tA) : PT X (.UnaryOp .Not a pos) (tNot tA) := by
  intro pins s σ H Q I h
  exact isTrue_not (ha pins s σ H (fun c H1 => Q (!c) H1) I h)
def tAndV (ta tb : TE) : TE := fun σ H Q => ta σ H fun x H1 => ∃ c, x = .bl c ∧ if c = true then tb σ H1 Q else Q (.bl false) H1
def tOrV (ta tb : TE) : TE := fun σ H Q => ta σ H fun x H1 => ∃ c, x = .bl c ∧ if c = true then Q (.bl true) H1 else tb σ H1 Q
def tNotV (ta : TE) : TE := fun σ H Q => ta σ H fun x H1 => ∃ c, x = .bl c ∧ Q (.bl (!c)) H1
theorem pe_one {op} {t : TE} (h : PE X a t) : PE X (.BoolOp op [a] pos) t := fun pins s σ H Q I hw => BoolOp_one (h pins s σ H Q I hw)
theorem pe_and (ha : PE X a ta) (hb : PE X (.BoolOp .And (b :: rest) pos) tb) : PE X (.BoolOp .And (a :: b :: rest) pos) (tAndV ta tb) := by
  intro pins s σ H Q I h
  refine BoolOp_and (thn (ha pins s σ H _ I h) fun v s1 ⟨x, H1, I1, r1, q1⟩ => ?_)
  obtain ⟨c, rfl, q1⟩ := q1
  cases r1
  refine wpAny_truthy_bool ?_
  cases c with
  | true => exact hb pins s1 σ H1 Q I1 q1
  | false => exact ⟨.bl false, H1, I1, rfl, q1⟩
theorem pe_or (ha : PE X a ta) (hb : PE X (.BoolOp .Or (b :: rest) pos) tb) : PE X (.BoolOp .Or (a :: b :: rest) pos) (tOrV ta tb) := by
  intro pins s σ H Q I h
  refine BoolOp_or (thn (ha pins s σ H _ I h) fun v s1 ⟨x, H1, I1, r1, q1⟩ => ?_)
  obtain ⟨c, rfl, q1⟩ := q1
  cases r1
  refine wpAny_truthy_bool ?_
  cases c with
  | false => exact hb pins s1 σ H1 Q I1 q1
  | true => exact ⟨.bl true, H1, I1, rfl, q1⟩
theorem pe_not (ha : PE X a ta) : PE X (.UnaryOp .Not a pos) (tNotV ta) := by
  intro pins s σ H Q I h
  refine UnaryOp_ (thn (ha pins s σ H _ I h) fun v s1 ⟨x, H1, I1, r1, q1⟩ => ?_)
  obtain ⟨c, rfl, q1⟩ := q1
  cases r1
  exact not_of (wpAny_truthy_bool ⟨.bl (!c), H1, I1, rfl, q1⟩)
def tIf (t : TT) (ta tb : TE) : TE := fun σ H Q => t σ H fun c H1 => if c = true then ta σ H1 Q else tb σ H1 Q
theorem pe_ifExp {c : Expr} (hc : PT X c tA) (ha : PE X a ta) (hb : PE X b tb) : PE X (.IfExp c a b pos) (tIf tA ta tb) := by
  intro pins s σ H Q I h
  refine wpAny_IfExp (thn (hc pins s σ H _ I h) fun d s1 ⟨H1, I1, q1⟩ => ?_)
  cases d with
  | true => exact ha pins s1 σ H1 Q I1 q1
  | false => exact hb pins s1 σ H1 Q I1 q1
end
end L2
namespace L2
open PySem PySem.Spec PyProof.Rows
def SqL (K : PySem.W.Frag) (H : Hp) (a : Addr) (xs : List V) : Prop :=
  Rd H a (.lst xs) ∨
    ∃ (o : Obj) (its : Array Value) (n : Nat), K.lookup a = some o ∧ o.cls = .type "list" ∧ o.dict = none ∧ o.data = .seq its n ∧ its.size ≤ sizeLine ∧ Vals xs its.toList
def SqT (K : PySem.W.Frag) (H : Hp) (a : Addr) (xs : List V) : Prop :=
  Rd H a (.tup xs) ∨
    ∃ (o : Obj) (its : Array Value) (n : Nat), K.lookup a = some o ∧ o.cls = .type "tuple" ∧ o.data = .seq its n ∧ its.size ≤ sizeLine ∧ Vals xs its.toList
def absV : Value → Option V
  | .none => some .non
  | .bool b => some (.bl b)
  | .int i _ => some (.int i)
  | .str x _ => some (.str x)
  | .bytes b _ => some (.byt b)
  | .float b _ => some (.flt b)
  | .ref a => some (.ref a)
  | .type n => some (.ty n)
  | _ => none
theorem RelV.abs {x : V} {u : Value} (r : RelV x u) : absV u = some x := by
  cases x with
  | non => cases r; rfl
  | bl _ => cases r; rfl
  | int _ => obtain ⟨t, rfl⟩ := r; rfl
  | str _ => obtain ⟨t, rfl⟩ := r; rfl
  | byt _ => obtain ⟨t, rfl⟩ := r; rfl
  | flt _ => obtain ⟨t, rfl⟩ := r; rfl
  | ref _ => cases r; rfl
  | ty _ => cases r; rfl
theorem RelV.inj {x y : V} {u : Value} (r : RelV x u) (q : RelV y u) : x = y := Option.some.inj (r.abs.symm.trans q.abs)
theorem Vals.inj : ∀ {xs ys : List V} {us : List Value}, Vals xs us → Vals ys us → xs = ys
  | _, _, _, .nil, .nil => rfl
  | _, _, _, .cons r t, .cons r' t' => by rw [r.inj r', Vals.inj t t']
section
variable {X : Cx} {pins : List (Addr × Obj)} {σ : St} {H : Hp} {s : Shared} {a : Addr} {xs ys : List V}
theorem SqL.of {K : PySem.W.Frag} (h : H a = some (.lst xs)) : SqL K H a xs := .inl (.inl h)
theorem SqT.of {K : PySem.W.Frag} (h : H a = some (.tup xs)) : SqT K H a xs := .inl (.inl h)
theorem Inv.list (I : Inv X pins σ H s) (h : SqL X.K H a xs) : ∃ its : List Value, Vals xs its ∧ PlainL s.heap a its.toArray ∧ xs.length ≤ sizeLine := by
  rcases h with h | ⟨o, its, n, hk, hc, hd, hs, hz, r⟩
  · obtain ⟨z, its, n, r, e⟩ := h.ok I.hok
    exact ⟨its, r, ⟨_, n, e, rfl, rfl, rfl⟩, z⟩
  · refine ⟨its.toList, r, ⟨o, n, I.kIn a o hk, hc, hd, by simpa using hs⟩, ?_⟩
    have e := r.length
    simp only [Array.length_toList] at e
    omega
theorem Inv.tuple (I : Inv X pins σ H s) (h : SqT X.K H a xs) : ∃ its : List Value, Vals xs its ∧ IsTup s.heap a its.toArray ∧ xs.length ≤ sizeLine := by
  rcases h with h | ⟨o, its, n, hk, hc, hs, hz, r⟩
  · obtain ⟨z, its, r, p⟩ := h.ok I.hok
    exact ⟨its, r, p, z⟩
  · refine ⟨its.toList, r, ⟨o, I.kIn a o hk, hc, n, by simpa using hs⟩, ?_⟩
    have e := r.length
    simp only [Array.length_toList] at e
    omega
theorem Inv.list_inj (I : Inv X pins σ H s) (h : SqL X.K H a xs) (h' : SqL X.K H a ys) : xs = ys := by
  obtain ⟨its, r, ⟨o, n, e, _, _, d⟩, _⟩ := I.list h
  obtain ⟨its', r', ⟨o', n', e', _, _, d'⟩, _⟩ := I.list h'
  rw [e] at e'; cases e'
  rw [d] at d'
  injection d' with d1 _
  have : its = its' := by simpa using congrArg Array.toList d1
  subst this
  exact r.inj r'
end
abbrev Cx.wish (X : Cx) (E : Value → Shared → Prop) : Cx := { X with xe := E }
abbrev Cx.nox (X : Cx) : Cx := X.wish fun _ _ => False
theorem Cx.Ok.wish {X : Cx} (ok : X.Ok) (E : Value → Shared → Prop) : (X.wish E).Ok :=
  ⟨ok.mod, ok.kind, ok.glob, ok.blt, ok.above, ok.inj, ok.has, ok.cab, ok.hd, ok.hm, ok.frames, ok.stk, ok.exf, ok.bs, ok.bsz, ok.noex, ok.exfs, ok.funs, ok.frf⟩
theorem Cx.Ok.unwish {X : Cx} {E : Value → Shared → Prop} (ok : (X.wish E).Ok) : X.Ok :=
  ⟨ok.mod, ok.kind, ok.glob, ok.blt, ok.above, ok.inj, ok.has, ok.cab, ok.hd, ok.hm, ok.frames, ok.stk, ok.exf, ok.bs, ok.bsz, ok.noex, ok.exfs, ok.funs, ok.frf⟩
section
variable {X : Cx} {pins : List (Addr × Obj)} {σ : St} {H : Hp} {s : Shared} {E : Value → Shared → Prop}
theorem Inv.wish (I : Inv X pins σ H s) (E : Value → Shared → Prop) : Inv (X.wish E) pins σ H s := ⟨I.ok.wish E, I.os, I.bare, I.base, I.loc, I.cell, I.free, I.freeC, I.pin, I.hok, I.len⟩
theorem Inv.unwish (I : Inv (X.wish E) pins σ H s) : Inv X pins σ H s := ⟨I.ok.unwish, I.os, I.bare, I.base, I.loc, I.cell, I.free, I.freeC, I.pin, I.hok, I.len⟩
theorem SP.unwish {D : Ends} {f : Flow} {s' : Shared} (h : SP (X.wish E) pins D f s') : SP X pins D f s' := by
  cases f with
  | next => obtain ⟨σ', H', I, q⟩ := h; exact ⟨σ', H', I.unwish, q⟩
  | brk => obtain ⟨σ', H', I, q⟩ := h; exact ⟨σ', H', I.unwish, q⟩
  | cont => obtain ⟨σ', H', I, q⟩ := h; exact ⟨σ', H', I.unwish, q⟩
  | ret u => obtain ⟨v, σ', H', I, r, q⟩ := h; exact ⟨v, σ', H', I.unwish, r, q⟩
theorem PSs.nox {st : List Stmt} {t : TS} (h : PSs X.nox st t) : PSs X st t := fun pins s σ H D I hw =>
  wpAny_mono (h pins s σ H D (I.wish _) hw) (fun _ _ q => q.unwish) fun _ _ z => False.elim z
end
section
variable {X : Cx} {st : Stmt} {rest : List Stmt} {t u : TS} {e : Expr} {te : TE} {pos : Pos}
def tNext : TS := fun D σ H => D.nx σ H
def tSeq (t u : TS) : TS := fun D σ H => t { D with nx := u D } σ H
theorem pss_nil : PSs X [] tNext := fun _ _ σ H _ I h => wpAny_execs_nil ⟨σ, H, I, h⟩
theorem pss_cons (h1 : PS X st t) (h2 : PSs X rest u) : PSs X (st :: rest) (tSeq t u) := by
  intro pins s σ H D I h
  refine wpAny_execs_cons (thn (h1 pins s σ H { D with nx := u D } I h) fun f s1 q => ?_)
  cases f with
  | next =>
    obtain ⟨σ', H', I', q⟩ := q
    exact h2 pins s1 σ' H' D I' q
  | ret v => exact q
  | brk => exact q
  | cont => exact q
theorem pss_one (h1 : PS X st t) : PSs X [st] t := by
  intro pins s σ H D I h
  refine wpAny_execs_cons (thn (h1 pins s σ H D I h) fun f s1 q => ?_)
  cases f with
  | next => exact wpAny_execs_nil q
  | ret v => exact q
  | brk => exact q
  | cont => exact q
theorem Inv.quiet {pins : List (Addr × Obj)} {σ : St} {H : Hp} {s : Shared} (I : Inv X pins σ H s) : interactive X.env = false := by simp [interactive, I.ok.kind]
def tDrop (te : TE) : TS := fun D σ H => te σ H fun _ H1 => D.nx σ H1
theorem ps_expr (he : PE X e te) (hs : swapsWith e none pos.line X.env = pure false := by rfl) : PS X (.Expr e pos) (tDrop te) := by
  intro pins s σ H D I h
  exact wpAny_Expr_any (thn (he pins s σ H _ I h) fun v s1 ⟨x, H1, I1, r1, q1⟩ => ⟨σ, H1, I1, q1⟩) I.quiet hs
def tRet (te : TE) : TS := fun D σ H => te σ H D.rt
theorem ps_ret (he : PE X e te) : PS X (.Return (some e) pos) (tRet te) := by
  intro pins s σ H D I h
  exact wpAny_Return_some (thn (he pins s σ H _ I h) fun v s1 ⟨x, H1, I1, r1, q1⟩ => ⟨x, σ, H1, I1, r1, q1⟩)
def tIfS (c : TT) (t u : TS) : TS := fun D σ H => c σ H fun b H1 => if b = true then t D σ H1 else u D σ H1
theorem ps_if {c : Expr} {a b : List Stmt} {tc : TT} (hc : PT X c tc) (ha : PSs X a t) (hb : PSs X b u) : PS X (.If c a b pos) (tIfS tc t u) := by
  intro pins s σ H D I h
  refine wpAny_If (thn (hc pins s σ H _ I h) fun d s1 ⟨H1, I1, q1⟩ => ?_)
  cases d with
  | true => exact ha pins s1 σ H1 D I1 q1
  | false => exact hb pins s1 σ H1 D I1 q1
end
abbrev TG := V → St → Hp → (St → Hp → Prop) → Prop
abbrev TGs := List V → St → Hp → (St → Hp → Prop) → Prop
def PG (X : Cx) (target : Expr) (t : TG) : Prop :=
  ∀ (pins : List (Addr × Obj)) (s : Shared) (σ : St) (H : Hp) (v : V) (u : Value) (Q : St → Hp → Prop), Inv X pins σ H s → RelV v u → t v σ H Q →
    wpAny (model X.prog X.w) X.A (assign target X.env u) (fun _ s' => ∃ σ' H', Inv X pins σ' H' s' ∧ Q σ' H') X.xe s
def PGs (X : Cx) (ts : List Expr) (t : TGs) : Prop :=
  ∀ (pins : List (Addr × Obj)) (s : Shared) (σ : St) (H : Hp) (vs : List V) (us : List Value) (Q : St → Hp → Prop), Inv X pins σ H s → Vals vs us → t vs σ H Q →
    wpAny (model X.prog X.w) X.A (assignInOrder ((assignEach ts X.env).map (·.2)) us) (fun _ s' => ∃ σ' H', Inv X pins σ' H' s' ∧ Q σ' H') X.xe s
abbrev TSet := V → V → V → Hp → (Hp → Prop) → Prop
def PSet (X : Cx) (t : TSet) : Prop :=
  ∀ (pins : List (Addr × Obj)) (s : Shared) (σ : St) (H : Hp) (o i v : V) (ov iv u : Value) (Q : Hp → Prop), Inv X pins σ H s → RelV o ov → RelV i iv → RelV v u → t o i v H Q →
    wpAny (model X.prog X.w) X.A (setItem ov iv u) (fun _ s' => ∃ H', Inv X pins σ H' s' ∧ Q H') X.xe s
abbrev TIp := V → V → Hp → VK → Prop
def PIp (X : Cx) (op : Operator) (t : TIp) : Prop :=
  ∀ (pins : List (Addr × Obj)) (s : Shared) (σ : St) (H : Hp) (x y : V) (v u : Value) (Q : VK), Inv X pins σ H s → RelV x v → RelV y u → t x y H Q →
    wpAny (model X.prog X.w) X.A (inplaceOp op v u) (EP X pins σ Q) X.xe s
section
variable {X : Cx} {pos : Pos}
def gName (i : Nat) : TG := fun v σ H Q => Q (σ.set i (some v)) H
theorem pg_name {i : Nat} {x : Str} (hN : X.N.Nodup) (hi : X.N[i]? = some x) (hx : Loc X.env.scope x) (hf : X.fn x = true ∨ X.env.scope.names.lookup x = some .local := by first | exact .inl rfl | exact .inr rfl | assumption) : PG X (.Name x pos) (gName i) := by
  intro pins s σ H v u Q I r h
  exact wpAny_assign_Name (store_ok I hN hi hx r (fun s' I' => ⟨_, H, I', h⟩) hf)
def gNil : TGs := fun vs σ H Q => vs = [] ∧ Q σ H
def gCons (t : TG) (u : TGs) : TGs := fun vs σ H Q => ∃ v r, vs = v :: r ∧ t v σ H fun σ' H' => u r σ' H' Q
theorem pgs_nil : PGs X [] gNil := by
  intro pins s σ H vs us Q I r h
  obtain ⟨e, h⟩ := h
  subst e
  cases r
  exact assignInOrder_nil ⟨σ, H, I, h⟩
theorem pgs_cons {e : Expr} {es : List Expr} {t : TG} {u : TGs} (h1 : PG X e t) (h2 : PGs X es u)
    (hs : (assignEach (e :: es) X.env).map (·.2) = assign e X.env :: (assignEach es X.env).map (·.2) := by rfl) : PGs X (e :: es) (gCons t u) := by
  intro pins s σ H vs us Q I r h
  obtain ⟨v, vr, e1, h⟩ := h
  subst e1
  cases r with
  | cons r rr =>
    rw [hs]
    refine assignInOrder_cons (thn (h1 pins s σ H _ _ _ I r h) fun _ s1 ⟨σ1, H1, I1, q1⟩ => ?_)
    exact h2 pins s1 σ1 H1 _ _ Q I1 rr q1
def gTup (K : PySem.W.Frag) (n : Nat) (t : TGs) : TG := fun v σ H Q => ∃ a xs, v = .ref a ∧ SqT K H a xs ∧ xs.length = n ∧ t xs σ H Q
theorem pg_tup {es : List Expr} {k : Nat} {t : TGs} {n : Nat} (hc : X.calm = true) (h : PGs X es t)
    (hn : (assignEach es X.env).length = n := by rfl) (hst : (assignEach es X.env).findIdx? (·.1) = none := by rfl) : PG X (.Tuple es k pos) (gTup X.K n t) := by
  intro pins s σ H v u Q I r hw
  obtain ⟨a, xs, e1, hq, hl, hw⟩ := hw
  subst e1
  cases r
  obtain ⟨its, rv, ht, hz⟩ := I.tuple hq
  refine assign_Tuple_tuple (I.ok.hd hc) ht (by simp [hn, ← hl, rv.length]) hst fun h' hx => ?_
  have I1 : Inv X pins σ H { s with heap := h' } := I.kept (t' := s.toks) fun b o e => hx b o (Nat.ne_of_lt (Heap.lt_size e)) e
  exact h pins _ σ H xs _ Q I1 (by simpa using rv) hw
def gSub (to ti : TE) (t : TSet) : TG := fun v σ H Q => to σ H fun o H1 => ti σ H1 fun i H2 => t o i v H2 fun H3 => Q σ H3
theorem pg_sub {o i : Expr} {to ti : TE} {t : TSet} (ho : PE X o to) (hi : PE X i ti) (hs : PSet X t)
    (ha : ∀ v, assign (.Subscript o i pos) X.env v = (do
      let ov ← holding [v] (eval o X.env)
      let iv ← holding [v, ov] (eval i X.env)
      standAt pos
      holding [v, ov, iv] (setItem ov iv v)
      release [v, ov, iv] []) := by intro _; rfl) : PG X (.Subscript o i pos) (gSub to ti t) := by
  intro pins s σ H v u Q I r h
  rw [ha]
  refine wpAny_bind (wpAny_holding (thn (ho pins s σ H _ I h) fun ov s1 ⟨x, H1, I1, r1, q1⟩ => ?_))
  refine wpAny_bind (wpAny_holding (thn (hi pins s1 σ H1 _ I1 q1) fun iv s2 ⟨y, H2, I2, r2, q2⟩ => ?_))
  refine wpAny_bind (wpAny_standAt (wpAny_bind (wpAny_holding (thn (hs pins s2 σ H2 x y v ov iv u _ I2 r1 r2 r q2) fun _ s3 ⟨H3, I3, q3⟩ => ?_))))
  exact wpAny_release ⟨σ, H3, I3, q3⟩
def tAsg (te : TE) (g : TG) : TS := fun D σ H => te σ H fun x H1 => g x σ H1 D.nx
theorem ps_asg {tg e : Expr} {te : TE} {g : TG} (he : PE X e te) (hg : PG X tg g) (hs : swapsWithSole [tg] e pos.line X.env = pure false := by rfl) (hw : swappedStores [tg] e X.env = pure none := by rfl)
    (h1 : (assignEach [tg] X.env).map (·.2) = [assign tg X.env] := by rfl) : PS X (.Assign [tg] e pos) (tAsg te g) := by
  intro pins s σ H D I h
  refine wpAny_Assign_stores (thn (he pins s σ H _ I h) fun v s1 ⟨x, H1, I1, r1, q1⟩ => ?_) hs hw
  rw [h1]
  exact thn (hg pins s1 σ H1 x v _ I1 r1 q1) fun _ s2 q => q
theorem ps_set {i : Nat} {x : Str} {e : Expr} {te : TE} {pos' : Pos} (hN : X.N.Nodup) (hi : X.N[i]? = some x) (hx : Loc X.env.scope x) (he : PE X e te) (hs : swapsWith e (some (.Name x pos')) pos.line X.env = pure false := by rfl) (hf : X.fn x = true ∨ X.env.scope.names.lookup x = some .local := by first | exact .inl rfl | exact .inr rfl | assumption) :
    PS X (.Assign [.Name x pos'] e pos) (tAsg te (gName i)) := by
  intro pins s σ H D I h
  refine wpAny_Assign_Name (thn (he pins s σ H _ I h) fun v s1 ⟨y, H1, I1, r1, q1⟩ => ?_) hs
  exact store_ok I1 hN hi hx r1 (fun s2 I2 => ⟨_, H1, I2, q1⟩) hf
def tAugS (to ti te : TE) (tget : V → V → Hp → VK → Prop) (tip : TIp) (tset : TSet) : TS := fun D σ H => to σ H fun o H1 => ti σ H1 fun i H2 => tget o i H2 fun x H3 => te σ H3 fun y H4 => tip x y H4 fun z H5 => tset o i z H5 fun H6 => D.nx σ H6
def PGet (X : Cx) (t : V → V → Hp → VK → Prop) : Prop :=
  ∀ (pins : List (Addr × Obj)) (s : Shared) (σ : St) (H : Hp) (o i : V) (ov iv : Value) (Q : VK), Inv X pins σ H s → RelV o ov → RelV i iv → t o i H Q →
    wpAny (model X.prog X.w) X.A (getItem ov iv) (EP X pins σ Q) X.xe s
theorem ps_augS {o i e : Expr} {to ti te : TE} {tget : V → V → Hp → VK → Prop} {tip : TIp} {tset : TSet} {op : Operator} {tpos : Pos} (ho : PE X o to) (hi : PE X i ti) (hg : PGet X tget) (he : PE X e te) (hp : PIp X op tip) (hs : PSet X tset)
    (ha : ∀ ov iv new, augStore i ov iv new = (do holding [new, ov, iv] (setItem ov iv new); release [new, ov, iv] []; pure .next) := by intros; rfl) : PS X (.AugAssign (.Subscript o i tpos) op e pos) (tAugS to ti te tget tip tset) := by
  intro pins s σ H D I h
  refine wpAny_AugAssign_SubscriptAny (thn (ho pins s σ H _ I h) fun ov s1 ⟨x1, H1, I1, r1, q1⟩ => ?_) ha
  refine thn (hi pins s1 σ H1 _ I1 q1) fun iv s2 ⟨x2, H2, I2, r2, q2⟩ => ?_
  refine thn (hg pins s2 σ H2 x1 x2 ov iv _ I2 r1 r2 q2) fun old s3 ⟨x3, H3, I3, r3, q3⟩ => ?_
  refine thn (he pins s3 σ H3 _ I3 q3) fun v s4 ⟨x4, H4, I4, r4, q4⟩ => ?_
  refine thn (hp pins s4 σ H4 x3 x4 old v _ I4 r3 r4 q4) fun new s5 ⟨x5, H5, I5, r5, q5⟩ => ?_
  exact thn (hs pins s5 σ H5 x1 x2 x5 ov iv new _ I5 r1 r2 r5 q5) fun _ s6 ⟨H6, I6, q6⟩ => ⟨σ, H6, I6, q6⟩
def ipI (f : Int → Int → Int) : TIp := fun x y H Q => ∃ i j, x = .int i ∧ y = .int j ∧ Q (.int (f i j)) H
theorem ip_add : PIp X .Add (ipI fun i j => i + j) := by
  intro pins s σ H x y v u Q I r1 r2 h
  obtain ⟨i, j, e1, e2, q⟩ := h
  subst e1; subst e2
  obtain ⟨t, rfl⟩ := r1
  obtain ⟨t', rfl⟩ := r2
  exact iadd_int ⟨.int _, H, I.tok _, ⟨_, rfl⟩, q⟩
end
section
variable {X : Cx} {pos : Pos}
end
structure It where
  go : Nat → Hp → Prop
  yld : Nat → Hp → V → Hp → Prop
  stop : Nat → Hp → Prop
def FpOk (X : Cx) (pins : List (Addr × Obj)) (H : Hp) (b : Addr) : Prop :=
  H b = none ∧ b ≠ X.env.locals ∧ b ∉ X.fs ∧ (b ∈ X.ex ∨ X.s₀.heap.objs.size ≤ b) ∧ (∀ x c, X.env.cells.lookup x = some c → c ≠ b) ∧ ∀ p ∈ X.pn ++ pins, p.1 ≠ b
theorem Inv.fpOk {X : Cx} {pins : List (Addr × Obj)} {σ : St} {H H' : Hp} {s : Shared} {b : Addr} (I : Inv X pins σ H s) (hb : s.heap.objs.size ≤ b) (hn : H' b = none) : FpOk X pins H' b := by
  refine ⟨hn, Nat.ne_of_gt (Nat.lt_of_lt_of_le I.lt hb), I.nofs hb, .inr (Nat.le_trans I.sz hb), fun x c e z => ?_, fun p hp z => ?_⟩
  · obtain ⟨v, q⟩ := I.cell x c e
    exact absurd (Nat.lt_of_lt_of_le q.lt (by rw [z]; exact hb)) (Nat.lt_irrefl _)
  · exact absurd (Nat.lt_of_lt_of_le (Heap.lt_size (I.pin p hp).1) (by rw [z]; exact hb)) (Nat.lt_irrefl _)
def TOk (X : Cx) (m : Bool) : Prop := (m = true → X.calm = true) ∧ X.mild = true
def ChainAt (h : Heap) (e : Addr) : Prop := ∃ o vs D, h.get? e = some o ∧ o.cls = .ref D ∧ o.data = .fields vs ∧ (vs[2]? = some .none ∨ ∃ r o2 ws D2, vs[2]? = some (.ref r) ∧ r ≠ e ∧ h.get? r = some o2 ∧ o2.cls = .ref D2 ∧ o2.data = .fields ws ∧ ws[2]? = some .none)
def HndAt (hd : Option Value) (h : Heap) : Prop := hd = none ∨ ∃ e, hd = some (.ref e) ∧ ChainAt h e
theorem Inv.hnd {X : Cx} {pins : List (Addr × Obj)} {σ : List (Option V)} {H : Hp} {s : Shared} (I : Inv X pins σ H s) (h : X.mild = true) : Hnd X.A.handled H := by
  rcases I.ok.hm h with z | ⟨e, z, o, u, vs, D, a, b1, b, c⟩
  · exact .inl z
  · refine .inr ⟨e, z, o, u, vs, D, I.base.frzs e o u a, b1, b, ?_⟩
    rcases c with c | ⟨r, o2, u2, ws, D2, c1, c2, c3, c4⟩
    · exact .inl c
    · exact .inr ⟨r, o2, u2, ws, D2, c1, c2, I.base.frzs r o2 u2 c3, c4⟩
theorem Inv.chain {X : Cx} {pins : List (Addr × Obj)} {σ : List (Option V)} {H : Hp} {s : Shared} (I : Inv X pins σ H s) (h : X.mild = true) : HndAt X.A.handled s.heap := by
  rcases I.hnd h with z | ⟨e, z, o, u, vs, D, a, b1, b, c⟩
  · exact .inl z
  · refine .inr ⟨e, z, o, vs, D, (I.hok e _ a).1, b1, b, ?_⟩
    rcases c with c | ⟨r, o2, u2, ws, D2, c1, c2, c3, c4⟩
    · exact .inl c
    · exact .inr ⟨r, o2, ws, D2, c1, c2, (I.hok r _ c3).1, c4⟩
structure Turn (P : Program) (w : World) (K : PySem.W.Frag) (tg : Expr) (J : It) (fp : List Addr) (it : Addr) (tn : Nat → Heap → Prop) (m : Bool) : Prop where
  mem : it ∈ fp
  obj : ∀ i h, tn i h → ∀ b ∈ fp, ∃ o, h.get? b = some o ∧ ∀ v, o.data ≠ .cell v
  keep : ∀ i h h', tn i h → (∀ b ∈ fp, ∀ o, h.get? b = some o → h'.get? b = some o) → tn i h'
  item : ∀ (X : Cx), X.prog = P → X.w = w → X.K = K → TOk X m → ∀ (i : Nat) (pins : List (Addr × Obj)) (s : Shared) (σ : St) (H : Hp) (E : Value → Shared → Prop), Inv X pins σ H s → (∀ b ∈ fp, FpOk X pins H b) → tn i s.heap → J.go i H →
    wpAny (model P w) X.A (pyNext (.ref it)) (fun r s1 => ∃ u, r = some u ∧
      wpAny (model P w) X.A (letOwnedTupleGo tg (.ref it) u) (fun _ s2 => ∃ x H', Inv X pins σ H' s2 ∧ RelV x u ∧ J.yld i H x H' ∧ tn (i + 1) s2.heap ∧ ∀ b ∈ fp, H' b = none) E s1) E s
  done : ∀ (X : Cx), X.prog = P → X.w = w → X.K = K → TOk X m → ∀ (i : Nat) (pins : List (Addr × Obj)) (s : Shared) (σ : St) (H : Hp) (E : Value → Shared → Prop), Inv X pins σ H s → (∀ b ∈ fp, FpOk X pins H b) → tn i s.heap → J.stop i H →
    wpAny (model P w) X.A (pyNext (.ref it)) (fun r s1 => r = none ∧ Inv X pins σ H s1) E s
  self : ∀ (A : Around) (i : Nat) (s : Shared) (Q : Value → Shared → Prop) (E : Value → Shared → Prop), tn i s.heap → Q (.ref it) s → wpAny (model P w) A (pyIter (.ref it)) Q E s
abbrev TI := St → Hp → (It → Hp → Prop) → Prop
def PIE (X : Cx) (pins : List (Addr × Obj)) (σ : St) (tg : Expr) (R : It → Hp → Prop) (itv : Value) (s2 : Shared) : Prop :=
  ∃ (it : Addr) (fp : List Addr) (tn : Nat → Heap → Prop) (J : It) (H' : Hp), itv = .ref it ∧ Inv X pins σ H' s2 ∧ (∃ m, Turn X.prog X.w X.K tg J fp it tn m ∧ (m = true → X.calm = true)) ∧ tn 0 s2.heap ∧ (∀ b ∈ fp, FpOk X pins H' b) ∧ R J H'
def PI (X : Cx) (tg iter : Expr) (wi : TI) : Prop :=
  ∀ (pins : List (Addr × Obj)) (s : Shared) (σ : St) (H : Hp) (R : It → Hp → Prop), Inv X pins σ H s → wi σ H R →
    wpAny (model X.prog X.w) X.A (eval iter X.env) (fun v s1 => wpAny (model X.prog X.w) X.A (pyIter v) (PIE X pins σ tg R) X.xe s1) X.xe s
theorem go_of {M : Model} {A : Around} {E : Value → Shared → Prop} {s : Shared} {tg : Expr} {it : Addr} {u : Value} {o : Obj} {n : String} {vs : Array Value} {Q : Unit → Shared → Prop} (ho : s.heap.get? it = some o) (hc : o.cls = .type n) (hd : o.data = .fields vs)
    (hn : ["enumerate", "zip", "dict_itemiterator", "dict_reverseitemiterator", "odict_iterator", "itertools.zip_longest", "itertools.pairwise"].contains n = false) (hQ : Q () s) : wpAny M A (letOwnedTupleGo tg (.ref it) u) Q E s := by
  unfold letOwnedTupleGo
  cases tg <;> first
    | exact wpAny_pure hQ
    | (cases u <;> first
        | exact wpAny_pure hQ
        | (refine wpAny_bind (wpAny_load ho ?_)
           rw [hc, hd]
           show wpAny M A (if (["enumerate", "zip", "dict_itemiterator", "dict_reverseitemiterator", "odict_iterator", "itertools.zip_longest", "itertools.pairwise"].contains n && vs[0]? == some (rawInt _)) = true then _ else _) Q E s
           rw [if_neg (by intro h; rw [hn, Bool.false_and] at h; cases h)]
           exact wpAny_pure hQ))
def Itl (K : PySem.W.Frag) (a : Addr) : It :=
  ⟨fun i H => ∃ xs x, SqL K H a xs ∧ xs[i]? = some x, fun i H x H' => H' = H ∧ ∀ xs, SqL K H a xs → xs[i]? = some x, fun i H => ∃ xs, SqL K H a xs ∧ xs.length ≤ i⟩
def Itr (lo : Int) (n : Nat) : It := ⟨fun i _ => i < n, fun i H x H' => H' = H ∧ x = .int (lo + i), fun i _ => n ≤ i⟩
theorem entry_unchain : entryFor table "proto.unchain" = some Builtin.«proto.unchain» := entryFor_of_tree (by kernel_rfl)
theorem unchainAt {prog : Program} {w : World} {A : Around} {s : Shared} {h0 : Heap} {x e : Addr} {R : Result → Shared → Prop} (c : ChainAt h0 e) (k : ∀ b o, h0.get? b = some o → s.heap.get? b = some o) (hx : h0.get? x = none) (hR : R (.ok (.ret .none)) s) :
    codeAny (model prog w) A (.builtin "proto.unchain" ⟨[.ref x, .ref e, .ref e, .bool false], []⟩) R s := by
  obtain ⟨o, vs, D, he, _, hd, c⟩ := c
  refine codeAny_builtin entry_unchain ?_
  unfold Builtin.«proto.unchain»
  rcases c with c | ⟨r, o2, ws, D2, c1, c2, c3, _, c4, c5⟩
  · refine wpAny_bind (wpAny_field (k _ _ he) hd c ?_)
    rw [if_pos (by decide)]
    exact wpAny_pure hR
  · have nx : r ≠ x := fun z => by rw [z, hx] at c3; cases c3
    have b1 : (Value.ref r == Value.none) = false := by
      cases q : (Value.ref r == Value.none) with
      | false => rfl
      | true => exact absurd (eq_of_beq q) (by intro z; cases z)
    have bb : ∀ y : Addr, r ≠ y → (Value.ref r == Value.ref y) = false := fun y n => by
      cases q : (Value.ref r == Value.ref y) with
      | false => rfl
      | true => exact absurd (by have := eq_of_beq q; injection this) n
    refine wpAny_bind (wpAny_field (k _ _ he) hd c1 ?_)
    rw [if_neg (by rw [b1]; decide), if_neg (by rw [bb x nx]; decide), if_neg (by rw [bb e c2]; decide), if_neg (by decide)]
    refine wpAny_bind (wpAny_pure (wpAny_pure ⟨Code.quiet_builtin _ (by decide +kernel), codeAny_builtin entry_unchain ?_⟩))
    unfold Builtin.«proto.unchain»
    refine wpAny_bind (wpAny_field (k _ _ c3) c4 c5 ?_)
    rw [if_pos (by decide)]
    exact wpAny_pure hR
theorem stopAt {α : Type} {prog : Program} {w : World} {A : Around} {E : Value → Shared → Prop} {s : Shared} {Q : α → Shared → Prop} (hh : HndAt A.handled s.heap) (hE : ∀ h' x o, (∀ b ob, s.heap.get? b = some ob → h'.get? b = some ob) → h'.get? x = some o → o.cls = .type "StopIteration" → E (.ref x) { s with heap := h' }) :
    wpAny (model prog w) A (newExc (.type "StopIteration") [] >>= fun x => (raiseNew x : Sem α)) Q E s := by
  refine wpAny_bind ?_
  simp only [newExc, newTuple]
  refine wpAny_bind (wpAny_newObj_type ?_ (by size_fits))
  refine wpAny_bind (m := firstArgMember _ _) (wpAny_of_eq (a := Value.none) (by first | rfl | (simp only [firstArgMember]; rfl)) ?_)
  refine wpAny_newObj_type ?_ (by size_fits)
  generalize hob : ({ cls := .type "tuple", dict := none, data := .seq ([] : List Value).toArray } : Obj) = ob
  have hk : ∀ (ob2 : Obj) b o, s.heap.get? b = some o → ((s.heap.push ob).push ob2).get? b = some o := fun ob2 b o q => Heap.get?_push_of_some _ (Heap.get?_push_of_some _ q)
  have hx : ∀ ob2 : Obj, ob2.isFreed = false → ((s.heap.push ob).push ob2).get? (s.heap.push ob).objs.size = some ob2 := fun ob2 q => Heap.get?_push_size _ q
  have hnew : ∀ b o, s.heap.get? b = some o → b ≠ (s.heap.push ob).objs.size := fun b o q z => by
    have := Heap.lt_size q
    rw [z, Heap.size_push] at this
    exact absurd this (Nat.not_lt.mpr (Nat.le_succ _))
  unfold raiseNew
  refine wpAny_bind (wpAny_handled ?_)
  rcases hh with hh | ⟨e, hh, c⟩
  · rw [hh]
    refine wpAny_bind (wpAny_pure (wpAny_throw (hE _ _ _ (hk _) (hx _ rfl) rfl)))
  · rw [hh]
    dsimp only
    have he : e ≠ (s.heap.push ob).objs.size := let ⟨_, _, _, q, _⟩ := c; hnew e _ q
    rw [if_pos (by rw [bne_iff_ne]; intro z; injection z with z; exact he z)]
    have hx0 : s.heap.get? (s.heap.push ob).objs.size = none := Heap.get?_none_of_le (by rw [Heap.size_push]; exact Nat.le_succ _)
    refine wpAny_bind (wpAny_holding (wpAny_runValue (unchainAt c (hk _) hx0 ?_)))
    show wpAny _ _ (setField (.ref (s.heap.push ob).objs.size) 2 (.ref e) >>= fun _ => throw (.ref (s.heap.push ob).objs.size)) _ _ _
    refine wpAny_bind (wpAny_setField (hx _ rfl) rfl (by simp; omega) (wpAny_throw (hE _ _ _ (fun b o q => ?_) (Heap.get?_update_self _ (hx _ rfl) rfl) rfl)))
    rw [Heap.get?_update_other _ _ (Ne.symm (hnew b o q))]
    exact hk _ b o q
theorem hndAt_but {h h' : Heap} {I : Addr} {hd : Option Value} {o : Obj} {vs : Array Value} {n : String} (c : HndAt hd h) (sb : Heap.SameBut I h h') (g : h.get? I = some o) (d : o.data = .fields vs) (k : o.cls = .type n) : HndAt hd h' := by
  have ne : ∀ b ob D, h.get? b = some ob → ob.cls = .ref D → b ≠ I := fun b ob D q c z => by
    subst z
    rw [g] at q
    cases q
    rw [k] at c
    cases c
  rcases c with c | ⟨e, c, o1, ws, D, a1, a2, a3, a4⟩
  · exact .inl c
  · refine .inr ⟨e, c, o1, ws, D, (sb.2 e (ne _ _ _ a1 a2)).trans a1, a2, a3, ?_⟩
    rcases a4 with a4 | ⟨r, o2, us, D2, b1, b2, b3, b4, b5⟩
    · exact .inl a4
    · exact .inr ⟨r, o2, us, D2, b1, b2, (sb.2 r (ne _ _ _ b3 b4)).trans b3, b4, b5⟩
theorem listEnd {prog : Program} {w : World} {A : Around} {E : Value → Shared → Prop} {s : Shared} {I l : Addr} {i : Nat} {xs : Array Value} {Q : Option Value → Shared → Prop} (hh : HndAt A.handled s.heap) (hI : s.heap.IsListIter I l i) (hl : s.heap.IsList l xs) (hn : xs[i]? = none)
    (hq : ∀ h', Heap.ExtBut I s.heap h' → Q none { s with heap := h' }) : wpAny (model prog w) A (pyNext (.ref I)) Q E s := by
  obtain ⟨oI, gI, cI, dI⟩ := id hI
  obtain ⟨oL, gL, _, nL, dL⟩ := hl
  unfold pyNext
  refine wpAny_bind (wpAny_attempt (wpAny_callSpecial?_slot (name := Str.ofString "__next__") hI.typeIs slot_listiter_next (wpAny_call_entry slot_listiter_next hI.typeIs entry_listiter_next ?_ (args_listiter_next _))))
  show wpAny _ _ (field (.ref I) 0 >>= _) _ _ s
  refine wpAny_bind (wpAny_field gI dI (x := .ref l) rfl ?_)
  show wpAny _ _ (if (Value.ref l == Value.none) = true then _ else _) _ _ s
  rw [if_neg (by intro z; cases z)]
  show wpAny _ _ (field (.ref I) 1 >>= _) _ _ s
  refine wpAny_bind (wpAny_field gI dI (x := .int i 0) rfl ?_)
  show wpAny _ _ (seqItems? (.ref l) >>= _) _ _ s
  refine wpAny_bind (wpAny_seqItems gL dL ?_)
  simp only [Int.toNat_natCast, hn]
  refine wpAny_bind (wpAny_rule (wpAny_bind (wpAny_setField gI dI (by simp) ?_)))
  refine stopAt (s := { s with heap := s.heap.update I _ }) (hndAt_but hh (Heap.SameBut.update ..) gI dI cI) fun h' x o kp gx cx => ?_
  refine wpAny_bind (wpAny_isInstance (T := "StopIteration") (b := true) ⟨o, gx, cx⟩ isSubtype_stop ?_)
  exact wpAny_pure (hq _ fun b ob n q => kp b ob (((Heap.SameBut.update ..).2 b n).trans q))
theorem asciiEnd {prog : Program} {w : World} {A : Around} {E : Value → Shared → Prop} {s : Shared} {I : Addr} {z : Str} {tk : Tok} {i : Nat} {Q : Option Value → Shared → Prop} (hh : HndAt A.handled s.heap) (hI : s.heap.IsStrIter I "str_ascii_iterator" z tk i) (hn : z.cps[i]? = none)
    (hq : ∀ h', Heap.ExtBut I s.heap h' → Q none { s with heap := h' }) : wpAny (model prog w) A (pyNext (.ref I)) Q E s := by
  obtain ⟨oI, gI, cI, dI⟩ := id hI
  unfold pyNext
  refine wpAny_bind (wpAny_attempt (wpAny_callSpecial?_slot (name := Str.ofString "__next__") hI.typeIs F.slot_str_ascii_iterator_next (wpAny_call_entry F.slot_str_ascii_iterator_next hI.typeIs F.entry_str_ascii_iterator_next ?_ (F.args_str_ascii_iterator_next_1 _))))
  show wpAny _ _ (field (.ref I) 0 >>= _) _ _ s
  refine wpAny_bind (wpAny_field gI dI (x := .str z tk) rfl ?_)
  show wpAny _ _ (field (.ref I) 1 >>= _) _ _ s
  refine wpAny_bind (wpAny_field gI dI (x := .int i 0) rfl ?_)
  simp only [Int.toNat_natCast, hn]
  refine wpAny_bind (wpAny_rule (wpAny_bind (wpAny_setField gI dI (by simp) (wpAny_bind (wpAny_letGo ?_)))))
  refine stopAt (s := { s with heap := s.heap.update I _ }) (hndAt_but hh (Heap.SameBut.update ..) gI dI cI) fun h' x o kp gx cx => ?_
  refine wpAny_bind (wpAny_isInstance (T := "StopIteration") (b := true) ⟨o, gx, cx⟩ isSubtype_stop ?_)
  exact wpAny_pure (hq _ fun b ob n q => kp b ob (((Heap.SameBut.update ..).2 b n).trans q))
theorem turn_list {P : Program} {w : World} {K : PySem.W.Frag} {tg : Expr} (a it : Addr) : Turn P w K tg (Itl K a) [it] it (fun i h => h.IsListIter it a i) false where
  mem := by simp
  obj := fun i h st b hb => by
    have e : b = it := by simpa using hb
    subst e
    obtain ⟨o, e, c, d⟩ := st
    exact ⟨o, e, fun v z => by rw [d] at z; cases z⟩
  keep := fun i h h' st k => st.at fun o e => k it (by simp) o e
  item := by
    intro X hP hw hK hc i pins s σ H E I hf st hg
    subst hP hw hK
    obtain ⟨xs, x, hq, hx⟩ := hg
    obtain ⟨its, rv, p, hz⟩ := I.list hq
    obtain ⟨u, hu, ru⟩ := rv.get hx
    obtain ⟨f0, f1, f2, f3, f4, f5⟩ := hf it (by simp)
    refine wpAny_pyNext_list_item st p.isList (x := u) (by simpa using hu) fun h' st' sb => ?_
    have I1 : Inv X pins σ H { s with heap := h' } := I.turned (t' := s.toks) (fun b o hb e => (sb.2 b hb).trans e) f0 f1 f3 f4 f5
    obtain ⟨o, e, c, d⟩ := id st'
    exact ⟨u, rfl, go_of (s := { s with heap := h' }) e c d (by decide) ⟨x, H, I1, ru, ⟨rfl, fun ys hy => by rw [I.list_inj hy hq]; exact hx⟩, st', fun b hb => (hf b hb).1⟩⟩
  done := by
    intro X hP hw hK hc i pins s σ H E I hf st hg
    subst hP hw hK
    obtain ⟨xs, hq, hx⟩ := hg
    obtain ⟨its, rv, p, hz⟩ := I.list hq
    obtain ⟨f0, f1, f2, f3, f4, f5⟩ := hf it (by simp)
    have hl := rv.length
    exact listEnd (I.chain hc.2) st p.isList (by simp; omega) fun h' eb => ⟨rfl, I.turned (t' := s.toks) (fun b o hb e => eb b o hb e) f0 f1 f3 f4 f5⟩
  self := fun _ _ _ _ _ st h => wpAny_pyIter_listiter st h
theorem turn_range {P : Program} {w : World} {K : PySem.W.Frag} {tg : Expr} (it : Addr) (lo : Int) (n : Nat) : Turn P w K tg (Itr lo n) [it] it (fun i h => IsRangeIter h it (lo + (i : Nat) * 1) ((n : Int) - (i : Nat)) 1) true where
  mem := by simp
  obj := fun i h st b hb => by
    have e : b = it := by simpa using hb
    subst e
    exact ⟨_, st, fun v z => by
      have z' : Data.fields _ = Data.cell v := z
      cases z'⟩
  keep := fun i h h' st k => k it (by simp) _ st
  item := by
    intro X hP hw hK hc i pins s σ H E I hf st hg
    subst hP hw hK
    obtain ⟨f0, f1, f2, f3, f4, f5⟩ := hf it (by simp)
    have W := Walks.range (prog := X.prog) (w := X.w) (I.ok.hd (hc.1 rfl)) it lo 1 n
    refine W.item i s _ _ hg st fun v h' tk hv st' kk => ?_
    obtain ⟨t, rfl⟩ := hv
    have I1 : Inv X pins σ H { s with heap := h', toks := tk } := I.turned (fun b o hb e => kk b o (by simpa using hb) e) f0 f1 f3 f4 f5
    refine ⟨_, rfl, go_of (s := { s with heap := h', toks := tk }) (n := "range_iterator") st' rfl rfl (by decide) ⟨.int (lo + i), H, I1, ⟨t, ?_⟩, ⟨rfl, rfl⟩, st', fun b hb => (hf b hb).1⟩⟩
    rw [Int.mul_one]
  done := by
    intro X hP hw hK hc i pins s σ H E I hf st hg
    subst hP hw hK
    obtain ⟨f0, f1, f2, f3, f4, f5⟩ := hf it (by simp)
    exact wpAny_pyNext_range_end (I.ok.hd (hc.1 rfl)) st (by have : n ≤ i := hg; omega) fun h' eb => ⟨rfl, I.turned (t' := s.toks) (fun b o hb e => eb b o hb e) f0 f1 f3 f4 f5⟩
  self := fun _ _ _ _ _ st h => wpAny_pyIter_rangeiter st h
end L2
namespace L2
open PySem PySem.Spec PyProof.Rows
section
variable {X : Cx} {tg : Expr}
def iList (K : PySem.W.Frag) (tl : TE) : TI := fun σ H R => tl σ H fun x H1 => ∃ a, x = .ref a ∧ (∃ xs, SqL K H1 a xs) ∧ R (Itl K a) H1
theorem pi_list {l : Expr} {tl : TE} (hl : PE X l tl) : PI X tg l (iList X.K tl) := by
  intro pins s σ H R I h
  refine thn (hl pins s σ H _ I h) fun v s1 ⟨x, H1, I1, r1, q1⟩ => ?_
  obtain ⟨a, e, ⟨xs, hq⟩, q⟩ := q1
  subst e
  cases r1
  obtain ⟨its, rv, p, hz⟩ := I1.list hq
  refine wpAny_pyIter_list p.isList ?_
  refine ⟨s1.heap.objs.size, [s1.heap.objs.size], _, _, H1, rfl, I1.kept (t' := s1.toks) fun b o e => Heap.get?_push_of_some _ e, ⟨false, turn_list a _, fun z => by cases z⟩, ⟨_, Heap.get?_push_size _ rfl, rfl, rfl⟩, fun b hb => ?_, q⟩
  have e : b = s1.heap.objs.size := by simpa using hb
  subst e
  exact I1.fpOk (Nat.le_refl _) (I1.hok.fresh (Nat.le_refl _))
theorem range_it {pins : List (Addr × Obj)} {σ : St} {H : Hp} {s : Shared} {R : It → Hp → Prop} {E : Value → Shared → Prop} {lo hi : Int} {t u v : Tok} {tk : Nat} (hca : X.calm = true) (I : Inv X pins σ H s) (h1 : -(2 ^ 62) ≤ lo) (h2 : lo < 2 ^ 62) (h3 : -(2 ^ 62) ≤ hi) (h4 : hi < 2 ^ 62)
    (q : R (Itr lo (hi - lo).toNat) H) : wpAny (model X.prog X.w) X.A (pyIter (.ref s.heap.objs.size)) (PIE X pins σ tg R) E { s with heap := s.heap.push { cls := .type "range", data := .fields #[.int lo t, .int hi u, .int 1 v] }, toks := tk } := by
  refine wpAny_pyIter_range (IsRange.new ..) (small_one h1 h2 h3 h4) ?_
  have I1 : Inv X pins σ H { s with heap := s.heap.push { cls := .type "range", data := .fields #[.int lo t, .int hi u, .int 1 v] }, toks := tk } := I.kept fun b o e => Heap.get?_push_of_some _ e
  refine ⟨(s.heap.push { cls := .type "range", data := .fields #[.int lo t, .int hi u, .int 1 v] }).objs.size, [(s.heap.push { cls := .type "range", data := .fields #[.int lo t, .int hi u, .int 1 v] }).objs.size], _, _, H, rfl,
    I1.kept (t' := tk) fun b o e => Heap.get?_push_of_some _ e, ⟨true, turn_range _ lo (hi - lo).toNat, fun _ => hca⟩, ?_, fun b hb => ?_, q⟩
  · have e1 : lo + ((0 : Nat) : Int) * 1 = lo := by simp
    have e2 : (((hi - lo).toNat : Nat) : Int) - ((0 : Nat) : Int) = Builtin.Range.rangeSize lo hi 1 := by rw [rangeSize_one]; split <;> omega
    show IsRangeIter _ _ (lo + ((0 : Nat) : Int) * 1) ((((hi - lo).toNat : Nat) : Int) - ((0 : Nat) : Int)) 1
    rw [e1, e2]
    exact Heap.get?_push_size _ rfl
  · have e : b = (s.heap.push { cls := .type "range", data := .fields #[.int lo t, .int hi u, .int 1 v] }).objs.size := by simpa using hb
    subst e
    exact I1.fpOk (Nat.le_refl _) (I1.hok.fresh (Nat.le_refl _))
def iRng1 (ta : TA) : TI := fun σ H R => ta σ H fun vs H1 => ∃ j : Int, vs = [.int j] ∧ -(2 ^ 62) ≤ j ∧ j < 2 ^ 62 ∧ R (Itr 0 j.toNat) H1
theorem pi_range1 {a : Expr} {ta : TA} {p pos : Pos} (hg : Gl X "range") (hm : X.mg "range" = none) (ha : PA X [a] ta) (hs : starEach [a] X.env = [(false, eval a X.env)] := by rfl) (hca : X.calm = true := by rfl) : PI X tg (.Call (.Name "range" p) [a] [] pos) (iRng1 ta) := by
  intro pins s σ H R I h
  refine Call_ (ld_blt I hg hm boot_range (PyProof.Rows.callWith_type1 (thn (ha pos pins s σ H _ I h) fun us s1 ⟨vs, H1, I1, r1, q1⟩ => ?_) hs rfl))
  obtain ⟨j, e, q1, q2, q⟩ := q1
  subst e
  cases r1 with
  | cons r rr =>
    cases rr
    obtain ⟨t, rfl⟩ := r
    exact call_range_1 (range_it hca I1 (by omega) (by omega) q1 q2 (by simpa using q))
def tFor (wi : TI) (g : TG) (tb : TS) : TS := fun D σ H => wi σ H fun J H1 => ∃ W : Nat → Nat → St → Hp → Prop, (∃ m, W 0 m σ H1) ∧ ∀ i m σ H, W i m σ H →
  (J.stop i H ∧ D.nx σ H) ∨ (J.go i H ∧ ∃ N : St → Hp → Prop, (∀ σ' H', N σ' H' → ∃ m', m' < m ∧ W (i + 1) m' σ' H') ∧ ∀ x H', J.yld i H x H' → g x σ H' fun σ2 H2 => tb { D with nx := N, ct := N, bk := D.nx } σ2 H2)
def pinsAt (fp : List Addr) (h : Heap) : List (Addr × Obj) := fp.filterMap fun b => (h.get? b).map fun o => (b, o)
theorem mem_pinsAt {fp : List Addr} {h : Heap} {b : Addr} {o : Obj} (hb : b ∈ fp) (e : h.get? b = some o) : (b, o) ∈ pinsAt fp h := List.mem_filterMap.mpr ⟨b, hb, by rw [e]; rfl⟩
theorem of_pinsAt {fp : List Addr} {h : Heap} {p : Addr × Obj} (hp : p ∈ pinsAt fp h) : p.1 ∈ fp ∧ h.get? p.1 = some p.2 := by
  obtain ⟨b, hb, e⟩ := List.mem_filterMap.mp hp
  cases q : h.get? b with
  | none => rw [q] at e; cases e
  | some o =>
    rw [q] at e
    have e' : (b, o) = p := Option.some.inj e
    subst e'
    exact ⟨hb, q⟩
theorem Inv.pinned {pins : List (Addr × Obj)} {σ : St} {H : Hp} {s : Shared} {fp : List Addr} (I : Inv X pins σ H s) (hf : ∀ b ∈ fp, FpOk X pins H b) (ho : ∀ b ∈ fp, ∃ o, s.heap.get? b = some o ∧ ∀ v, o.data ≠ .cell v) : Inv X (pins ++ pinsAt fp s.heap) σ H s :=
  I.pins_of fun p hp => (List.mem_append.mp hp).elim (fun z => I.pin p (List.mem_append_right _ z)) fun z => by
    obtain ⟨hb, e⟩ := of_pinsAt z
    obtain ⟨f0, f1, f2, _⟩ := hf p.1 hb
    obtain ⟨o, e', d⟩ := ho p.1 hb
    rw [e] at e'; cases e'
    exact ⟨e, f0, f1, f2, d⟩
theorem Inv.unpinned {pins pl : List (Addr × Obj)} {σ : St} {H : Hp} {s : Shared} (I : Inv X (pins ++ pl) σ H s) : Inv X pins σ H s := I.pins_of fun p hp => I.pin p (List.mem_append_right _ (List.mem_append_left _ hp))
theorem ps_for {iter : Expr} {body : List Stmt} {wi : TI} {g : TG} {tb : TS} {pos : Pos} (hp : PassesOwn (model X.prog X.w) X.A X.env X.xe) (hc : X.mild = true) (hi : PI X tg iter wi) (hg : PG X tg g) (hb : PSs X body tb)
    (hs : ∀ x, foldedSetIterable iter X.env x = pure x := by intro _; rfl) : PS X (.For tg iter body [] pos) (tFor wi g tb) := by
  intro pins s σ H D I h
  refine wpAny_For (thn (hi pins s σ H _ I h) fun v s1 h1 => thn h1 fun itv s2 h2 => ?_) hs
  obtain ⟨it, fp, tn, J, H2, e, I2, ⟨mm, T, tk⟩, st2, f2, W, ⟨m0, w0⟩, turn⟩ := h2
  subst e
  have stat : ∀ {H' : Hp}, (∀ b ∈ fp, H' b = none) → ∀ b ∈ fp, FpOk X pins H' b := fun hn b hb => ⟨hn b hb, (f2 b hb).2⟩
  refine codeAny_forLoop_any (fun n s' => ∃ i σ' H', Inv X pins σ' H' s' ∧ tn i s'.heap ∧ (∀ b ∈ fp, H' b = none) ∧ W i n σ' H') ?_ m0 ⟨0, σ, H2, I2, st2, fun b hb => (f2 b hb).1, w0⟩
  rintro n s3 ⟨i, σ3, H3, I3, st3, fr3, w3⟩
  rcases turn i n σ3 H3 w3 with ⟨stop, qn⟩ | ⟨go, N, hN, step⟩
  · refine wpAny_passesOwn hp (thn (T.done X rfl rfl rfl ⟨tk, hc⟩ i pins s3 σ3 H3 X.xe I3 (stat fr3) st3 stop) fun r s4 ⟨hr, I4⟩ => ?_)
    subst hr
    exact wpAny_execs_nil ⟨σ3, H3, I4, qn⟩
  · refine wpAny_passesOwn hp (thn (T.item X rfl rfl rfl ⟨tk, hc⟩ i pins s3 σ3 H3 X.xe I3 (stat fr3) st3 go) fun r s4 ⟨u, hr, h4⟩ => ?_)
    subst hr
    refine wpAny_passesOwn hp (thn h4 fun _ s5 ⟨x, H5, I5, r5, y5, st5, fr5⟩ => ?_)
    have I5' := I5.pinned (stat fr5) (T.obj _ _ st5)
    refine wpAny_passesOwn hp (thn (hg _ s5 σ3 H5 x u _ I5' r5 (step x H5 y5)) fun _ s6 ⟨σ6, H6, I6, q6⟩ => ?_)
    refine wpAny_passesOwn hp (thn (hb _ s6 σ6 H6 _ I6 q6) fun f s7 q7 => ?_)
    have again : ∀ {σ7 : St} {H7 : Hp}, Inv X (pins ++ pinsAt fp s5.heap) σ7 H7 s7 → N σ7 H7 → ∃ m, m < n ∧ ∃ i σ' H', Inv X pins σ' H' s7 ∧ tn i s7.heap ∧ (∀ b ∈ fp, H' b = none) ∧ W i m σ' H' := fun {σ7 H7} I7 n7 => by
      obtain ⟨m', hm, w7⟩ := hN σ7 H7 n7
      refine ⟨m', hm, i + 1, σ7, H7, I7.unpinned, T.keep _ _ _ st5 fun b hb o e => (I7.pin (b, o) (List.mem_append_right _ (List.mem_append_right _ (mem_pinsAt hb e)))).1, fun b hb => ?_, w7⟩
      obtain ⟨o, e, d⟩ := T.obj _ _ st5 b hb
      exact (I7.pin (b, o) (List.mem_append_right _ (List.mem_append_right _ (mem_pinsAt hb e)))).2.1
    cases f with
    | next => obtain ⟨σ7, H7, I7, n7⟩ := q7; exact again I7 n7
    | cont => obtain ⟨σ7, H7, I7, n7⟩ := q7; exact again I7 n7
    | brk => obtain ⟨σ7, H7, I7, q7⟩ := q7; exact ⟨σ7, H7, I7.unpinned, q7⟩
    | ret v => obtain ⟨x7, σ7, H7, I7, r7, q7⟩ := q7; exact ⟨x7, σ7, H7, I7.unpinned, r7, q7⟩
end
theorem for_list {K : PySem.W.Frag} {a : Addr} {xs : List V} {g : TG} {tb : TS} {D : Ends} {σ : St} {H : Hp} (Pv : Nat → St → Hp → Prop) (h0 : Pv 0 σ H) (hl : ∀ i σ H, i ≤ xs.length → Pv i σ H → SqL K H a xs)
    (hs : ∀ i x σ H, xs[i]? = some x → Pv i σ H → g x σ H fun σ2 H2 => tb { D with nx := Pv (i + 1), ct := Pv (i + 1), bk := D.nx } σ2 H2) (hd : ∀ σ H, Pv xs.length σ H → D.nx σ H) :
    ∃ W : Nat → Nat → St → Hp → Prop, (∃ m, W 0 m σ H) ∧ ∀ i m σ H, W i m σ H →
      ((Itl K a).stop i H ∧ D.nx σ H) ∨ ((Itl K a).go i H ∧ ∃ N : St → Hp → Prop, (∀ σ' H', N σ' H' → ∃ m', m' < m ∧ W (i + 1) m' σ' H') ∧ ∀ x H', (Itl K a).yld i H x H' → g x σ H' fun σ2 H2 => tb { D with nx := N, ct := N, bk := D.nx } σ2 H2) := by
  refine ⟨fun i m σ H => m = xs.length - i ∧ i ≤ xs.length ∧ Pv i σ H, ⟨xs.length, by simp, Nat.zero_le _, h0⟩, ?_⟩
  rintro i m σ H ⟨rfl, hi, p⟩
  have q := hl i σ H hi p
  by_cases hlt : i < xs.length
  · refine .inr ⟨⟨xs, xs[i], q, by simp [hlt]⟩, Pv (i + 1), fun σ' H' p' => ⟨xs.length - (i + 1), by omega, rfl, hlt, p'⟩, fun x H' y => ?_⟩
    obtain ⟨e, y⟩ := y
    subst e
    exact hs i x σ _ (y xs q) p
  · have e : i = xs.length := by omega
    subst e
    exact .inl ⟨⟨xs, q, Nat.le_refl _⟩, hd σ H p⟩
theorem for_range {lo : Int} {n : Nat} {g : TG} {tb : TS} {D : Ends} {σ : St} {H : Hp} (Pv : Nat → St → Hp → Prop) (h0 : Pv 0 σ H)
    (hs : ∀ i σ H, i < n → Pv i σ H → g (.int (lo + i)) σ H fun σ2 H2 => tb { D with nx := Pv (i + 1), ct := Pv (i + 1), bk := D.nx } σ2 H2) (hd : ∀ σ H, Pv n σ H → D.nx σ H) :
    ∃ W : Nat → Nat → St → Hp → Prop, (∃ m, W 0 m σ H) ∧ ∀ i m σ H, W i m σ H →
      ((Itr lo n).stop i H ∧ D.nx σ H) ∨ ((Itr lo n).go i H ∧ ∃ N : St → Hp → Prop, (∀ σ' H', N σ' H' → ∃ m', m' < m ∧ W (i + 1) m' σ' H') ∧ ∀ x H', (Itr lo n).yld i H x H' → g x σ H' fun σ2 H2 => tb { D with nx := N, ct := N, bk := D.nx } σ2 H2) := by
  refine ⟨fun i m σ H => m = n - i ∧ i ≤ n ∧ Pv i σ H, ⟨n, by simp, Nat.zero_le _, h0⟩, ?_⟩
  rintro i m σ H ⟨rfl, hi, p⟩
  by_cases hlt : i < n
  · refine .inr ⟨hlt, Pv (i + 1), fun σ' H' p' => ⟨n - (i + 1), by omega, rfl, hlt, p'⟩, fun x H' y => ?_⟩
    obtain ⟨e, y⟩ := y
    subst e y
    exact hs i σ _ hlt p
  · have e : i = n := by omega
    subst e
    exact .inl ⟨Nat.le_refl _, hd σ H p⟩
end L2
namespace L2
open PySem PySem.Spec PyProof.Rows
abbrev R2 := V → V → Hp → VK → Prop
def OpR (X : Cx) (f : Value → Value → Sem Value) (r : R2) : Prop :=
  ∀ (pins : List (Addr × Obj)) (s : Shared) (σ : St) (H : Hp) (x y : V) (v u : Value) (Q : VK), Inv X pins σ H s → RelV x v → RelV y u → r x y H Q →
    wpAny (model X.prog X.w) X.A (f v u) (EP X pins σ Q) X.xe s
def UnR (X : Cx) (f : Value → Sem Value) (r : V → Hp → VK → Prop) : Prop :=
  ∀ (pins : List (Addr × Obj)) (s : Shared) (σ : St) (H : Hp) (x : V) (v : Value) (Q : VK), Inv X pins σ H s → RelV x v → r x H Q →
    wpAny (model X.prog X.w) X.A (f v) (EP X pins σ Q) X.xe s
def CallR (X : Cx) (f : Value) (r : List V → Hp → VK → Prop) : Prop :=
  ∀ (pins : List (Addr × Obj)) (s : Shared) (σ : St) (H : Hp) (xs : List V) (us : List Value) (Q : VK), Inv X pins σ H s → Vals xs us → r xs H Q →
    wpAny (model X.prog X.w) X.A (call f us) (EP X pins σ Q) X.xe s
def tOp (r : R2) (ta tb : TE) : TE := fun σ H Q => ta σ H fun x H1 => tb σ H1 fun y H2 => r x y H2 Q
def tUn (r : V → Hp → VK → Prop) (ta : TE) : TE := fun σ H Q => ta σ H fun x H1 => r x H1 Q
def rI (C : Int → Int → Prop) (g : Int → Int → V) : R2 := fun x y H Q => ∃ i j, x = .int i ∧ y = .int j ∧ C i j ∧ Q (g i j) H
def rI0 (g : Int → Int → V) : R2 := fun x y H Q => ∃ i j, x = .int i ∧ y = .int j ∧ Q (g i j) H
def rU (g : Int → V) : V → Hp → VK → Prop := fun x H Q => ∃ i, x = .int i ∧ Q (g i) H
section
variable {X : Cx} {a b c : Expr} {ta tb tc : TE} {pos : Pos}
theorem binT (ha : PE X a ta) (hb : PE X b tb) {pins : List (Addr × Obj)} {s : Shared} {σ : St} {H : Hp} {R : V → V → Hp → Prop} (I : Inv X pins σ H s)
    (h : ta σ H fun x H1 => tb σ H1 fun y H2 => R x y H2) {Q : Value → Shared → Prop} {f : Value → Value → Sem Value}
    (hf : ∀ v u s2 x y H2, Inv X pins σ H2 s2 → RelV x v → RelV y u → R x y H2 → wpAny (model X.prog X.w) X.A (f v u) Q X.xe s2) :
    wpAny (model X.prog X.w) X.A (eval a X.env) (fun v s₁ => wpAny (model X.prog X.w) X.A (eval b X.env) (fun u s₂ => wpAny (model X.prog X.w) X.A (f v u) Q X.xe s₂) X.xe s₁) X.xe s := by
  refine thn (ha pins s σ H _ I h) fun v s1 ⟨x, H1, I1, r1, q1⟩ => ?_
  refine thn (hb pins s1 σ H1 _ I1 q1) fun u s2 ⟨y, H2, I2, r2, q2⟩ => ?_
  exact hf v u s2 x y H2 I2 r1 r2 q2
theorem pe_op {op : Operator} {r : R2} (ho : OpR X (binaryOp op) r) (ha : PE X a ta) (hb : PE X b tb) : PE X (.BinOp a op b pos) (tOp r ta tb) := by
  intro pins s σ H Q I h
  exact wpAny_BinOp (binT ha hb I h fun v u s2 x y H2 I2 rx ry q => ho pins s2 σ H2 x y v u Q I2 rx ry q)
theorem pe_un {op : UnaryOp} {r : V → Hp → VK → Prop} (ho : UnR X (unaryOp op) r) (ha : PE X a ta) : PE X (.UnaryOp op a pos) (tUn r ta) := by
  intro pins s σ H Q I h
  exact UnaryOp_ (thn (ha pins s σ H _ I h) fun v s1 ⟨x, H1, I1, r1, q1⟩ => ho pins s1 σ H1 x v Q I1 r1 q1)
theorem opI {f : Value → Value → Sem Value} {C : Int → Int → Prop} {g : Int → Int → Int}
    (rule : ∀ (i j : Int) (t u : Tok) (s : Shared) (Q : Value → Shared → Prop) (E : Value → Shared → Prop), C i j → Q (.int (g i j) s.toks) { s with toks := s.toks + 1 } → wpAny (model X.prog X.w) X.A (f (.int i t) (.int j u)) Q E s) :
    OpR X f (rI C fun i j => .int (g i j)) := by
  intro pins s σ H x y v u Q I rx ry h
  obtain ⟨i, j, rfl, rfl, hc, q⟩ := h
  obtain ⟨t, rfl⟩ := rx
  obtain ⟨t', rfl⟩ := ry
  exact rule i j t t' s _ _ hc ⟨.int (g i j), H, I.tok _, ⟨_, rfl⟩, q⟩
theorem opI0 {f : Value → Value → Sem Value} {g : Int → Int → Int}
    (rule : ∀ (i j : Int) (t u : Tok) (s : Shared) (Q : Value → Shared → Prop) (E : Value → Shared → Prop), Q (.int (g i j) s.toks) { s with toks := s.toks + 1 } → wpAny (model X.prog X.w) X.A (f (.int i t) (.int j u)) Q E s) :
    OpR X f (rI0 fun i j => .int (g i j)) := by
  intro pins s σ H x y v u Q I rx ry h
  obtain ⟨i, j, rfl, rfl, q⟩ := h
  obtain ⟨t, rfl⟩ := rx
  obtain ⟨t', rfl⟩ := ry
  exact rule i j t t' s _ _ ⟨.int (g i j), H, I.tok _, ⟨_, rfl⟩, q⟩
theorem opB0 {f : Value → Value → Sem Value} {g : Int → Int → Bool}
    (rule : ∀ (i j : Int) (t u : Tok) (s : Shared) (Q : Value → Shared → Prop) (E : Value → Shared → Prop), Q (.bool (g i j)) s → wpAny (model X.prog X.w) X.A (f (.int i t) (.int j u)) Q E s) :
    OpR X f (rI0 fun i j => .bl (g i j)) := by
  intro pins s σ H x y v u Q I rx ry h
  obtain ⟨i, j, rfl, rfl, q⟩ := h
  obtain ⟨t, rfl⟩ := rx
  obtain ⟨t', rfl⟩ := ry
  exact rule i j t t' s _ _ ⟨.bl (g i j), H, I, rfl, q⟩
def CDiv (i j : Int) : Prop := 0 < j ∧ j < 1073741824
def CMul (i j : Int) : Prop := (-(2 ^ 64) < i ∧ i < 2 ^ 64) ∨ (-(2 ^ 64) < j ∧ j < 2 ^ 64)
theorem CMul.ok {i j : Int} (h : CMul i j) : IntMulOk i j := by
  rcases h with ⟨h1, h2⟩ | ⟨h1, h2⟩
  · exact .of_left (intBits_le_64 h1 h2)
  · exact .of_right (intBits_le_64 h1 h2)
theorem op_add : OpR X (binaryOp .Add) (rI0 fun i j => .int (i + j)) := opI0 fun _ _ _ _ _ _ _ q => add_int q
theorem op_sub : OpR X (binaryOp .Sub) (rI0 fun i j => .int (i - j)) := opI0 fun _ _ _ _ _ _ _ q => sub_int q
theorem op_mul : OpR X (binaryOp .Mult) (rI CMul fun i j => .int (i * j)) := opI fun _ _ _ _ _ _ _ hc q => mul_int q hc.ok
theorem op_fdiv : OpR X (binaryOp .FloorDiv) (rI CDiv fun i j => .int (i / j)) := opI fun i j _ _ _ _ _ hc q => by
  have h1 : (0 : Int) < j := hc.1
  have h2 : j < 1073741824 := hc.2
  exact floordiv_int (by omega) (by rw [Int.fdiv_eq_ediv_of_nonneg i (by omega)]; exact q) (.inl (PyProof.noPylong_small (by omega)))
theorem op_mod : OpR X (binaryOp .Mod) (rI (fun _ j => 0 < j) fun i j => .int (i % j)) := opI fun i j _ _ _ _ _ hc q => by
  have h1 : (0 : Int) < j := hc
  exact mod_int' (by omega) (by rw [Int.fmod_eq_emod_of_nonneg i (by omega)]; exact q)
theorem unI {f : Value → Sem Value} {g : Int → Int}
    (rule : ∀ (i : Int) (t : Tok) (s : Shared) (Q : Value → Shared → Prop) (E : Value → Shared → Prop), Q (.int (g i) s.toks) { s with toks := s.toks + 1 } → wpAny (model X.prog X.w) X.A (f (.int i t)) Q E s) :
    UnR X f (rU fun i => .int (g i)) := by
  intro pins s σ H x v Q I rx h
  obtain ⟨i, rfl, q⟩ := h
  obtain ⟨t, rfl⟩ := rx
  exact rule i t s _ _ ⟨.int (g i), H, I.tok _, ⟨_, rfl⟩, q⟩
theorem un_neg : UnR X (unaryOp .USub) (rU fun i => .int (-i)) := unI fun _ _ _ _ _ q => neg_int q
end
def scal : V → V → Bool
  | .non, .non => true | .non, .int _ => true | .int _, .non => true | .non, .bl _ => true | .bl _, .non => true | .non, .str _ => true | .str _, .non => true
  | .int _, .int _ => true | .bl _, .bl _ => true | .str _, .str _ => true | .byt _, .byt _ => true
  | .int _, .str _ => true | .str _, .int _ => true | .bl _, .str _ => true | .str _, .bl _ => true
  | _, _ => false
def rEq : R2 := fun x y H Q => scal x y = true ∧ Q (.bl (decide (x = y))) H
def rNe : R2 := fun x y H Q => scal x y = true ∧ Q (.bl (!decide (x = y))) H
theorem dec_int {i j : Int} : decide (V.int i = V.int j) = (i == j) := by
  rw [Bool.eq_iff_iff]
  simp
theorem dec_bl {i j : Bool} : decide (V.bl i = V.bl j) = (i == j) := by
  rw [Bool.eq_iff_iff]
  simp
theorem dec_str {i j : Str} : decide (V.str i = V.str j) = (i == j) := by
  rw [Bool.eq_iff_iff]
  simp
theorem dec_byt {i j : Array UInt8} : decide (V.byt i = V.byt j) = (i.toList == j.toList) := by
  rw [Bool.eq_iff_iff]
  cases i
  cases j
  simp
section
variable {X : Cx} {a b c : Expr} {ta tb tc : TE} {pos : Pos}
theorem fin_bl {pins : List (Addr × Obj)} {σ : St} {H : Hp} {s : Shared} {Q : VK} {k k' : Bool} (I : Inv X pins σ H s) (q : Q (.bl k) H) (e : k = k') : EP X pins σ Q (.bool k') s := by
  subst e
  exact ⟨.bl k, H, I, rfl, q⟩
theorem op_eq : OpR X (compareOp .Eq) rEq := by
  intro pins s σ H x y v u Q I rx ry h
  obtain ⟨hs, q⟩ := h
  cases x with
  | non =>
    cases rx
    cases y with
    | non => cases ry; exact PySem.EqNone.eq_none_none (fin_bl I q (by simp))
    | bl j => cases ry; exact PySem.EqNone.eq_none_bool (fin_bl I q (by simp))
    | int j => obtain ⟨t', rfl⟩ := ry; exact PySem.EqNone.eq_none_int (fin_bl I q (by simp))
    | str j => obtain ⟨t', rfl⟩ := ry; exact PySem.EqNone.eq_none_str (fin_bl I q (by simp))
    | _ => exact absurd (show false = true from hs) Bool.false_ne_true
  | bl i =>
    cases rx
    cases y with
    | non => cases ry; exact PySem.EqNone.eq_bool_none (fin_bl I q (by simp))
    | bl j => cases ry; exact eq_bool (fin_bl I q dec_bl)
    | str j => obtain ⟨t', rfl⟩ := ry; exact PySem.EqMixed.eq_bool_str (fin_bl I q (by simp))
    | _ => exact absurd (show false = true from hs) Bool.false_ne_true
  | int i =>
    obtain ⟨t, rfl⟩ := rx
    cases y with
    | non => cases ry; exact PySem.EqNone.eq_int_none (fin_bl I q (by simp))
    | int j => obtain ⟨t', rfl⟩ := ry; exact eq_int (fin_bl I q dec_int)
    | str j => obtain ⟨t', rfl⟩ := ry; exact PySem.EqMixed.eq_int_str (fin_bl I q (by simp))
    | _ => exact absurd (show false = true from hs) Bool.false_ne_true
  | str i =>
    obtain ⟨t, rfl⟩ := rx
    cases y with
    | non => cases ry; exact PySem.EqNone.eq_str_none (fin_bl I q (by simp))
    | bl j => cases ry; exact PySem.EqMixed.eq_str_bool (fin_bl I q (by simp))
    | int j => obtain ⟨t', rfl⟩ := ry; exact PySem.EqMixed.eq_str_int (fin_bl I q (by simp))
    | str j => obtain ⟨t', rfl⟩ := ry; exact eq_str (fin_bl I q dec_str)
    | _ => exact absurd (show false = true from hs) Bool.false_ne_true
  | byt i =>
    obtain ⟨t, rfl⟩ := rx
    cases y with
    | byt j => obtain ⟨t', rfl⟩ := ry; exact PySem.W.eq_bytes (fin_bl I q dec_byt)
    | _ => exact absurd (show false = true from hs) Bool.false_ne_true
  | _ => cases y <;> exact absurd (show false = true from hs) Bool.false_ne_true
theorem op_ne : OpR X (compareOp .NotEq) rNe := by
  intro pins s σ H x y v u Q I rx ry h
  obtain ⟨hs, q⟩ := h
  cases x with
  | non =>
    cases rx
    cases y with
    | non => cases ry; exact PySem.EqNone.ne_none_none (fin_bl I q (by simp))
    | bl j => cases ry; exact PySem.EqNone.ne_none_bool (fin_bl I q (by simp))
    | int j => obtain ⟨t', rfl⟩ := ry; exact PySem.EqNone.ne_none_int (fin_bl I q (by simp))
    | str j => obtain ⟨t', rfl⟩ := ry; exact PySem.EqNone.ne_none_str (fin_bl I q (by simp))
    | _ => exact absurd (show false = true from hs) Bool.false_ne_true
  | bl i =>
    cases rx
    cases y with
    | non => cases ry; exact PySem.EqNone.ne_bool_none (fin_bl I q (by simp))
    | bl j => cases ry; exact ne_bool (fin_bl I q (congrArg not dec_bl))
    | str j => obtain ⟨t', rfl⟩ := ry; exact PySem.EqMixed.ne_bool_str (fin_bl I q (by simp))
    | _ => exact absurd (show false = true from hs) Bool.false_ne_true
  | int i =>
    obtain ⟨t, rfl⟩ := rx
    cases y with
    | non => cases ry; exact PySem.EqNone.ne_int_none (fin_bl I q (by simp))
    | int j => obtain ⟨t', rfl⟩ := ry; exact ne_int (fin_bl I q (congrArg not dec_int))
    | str j => obtain ⟨t', rfl⟩ := ry; exact PySem.EqMixed.ne_int_str (fin_bl I q (by simp))
    | _ => exact absurd (show false = true from hs) Bool.false_ne_true
  | str i =>
    obtain ⟨t, rfl⟩ := rx
    cases y with
    | non => cases ry; exact PySem.EqNone.ne_str_none (fin_bl I q (by simp))
    | bl j => cases ry; exact PySem.EqMixed.ne_str_bool (fin_bl I q (by simp))
    | int j => obtain ⟨t', rfl⟩ := ry; exact PySem.EqMixed.ne_str_int (fin_bl I q (by simp))
    | str j => obtain ⟨t', rfl⟩ := ry; exact ne_str (fin_bl I q (congrArg not dec_str))
    | _ => exact absurd (show false = true from hs) Bool.false_ne_true
  | byt i =>
    obtain ⟨t, rfl⟩ := rx
    cases y with
    | byt j => obtain ⟨t', rfl⟩ := ry; exact PySem.W.ne_bytes (fin_bl I q (congrArg not dec_byt))
    | _ => exact absurd (show false = true from hs) Bool.false_ne_true
  | _ => cases y <;> exact absurd (show false = true from hs) Bool.false_ne_true
theorem op_lt : OpR X (compareOp .Lt) (rI0 fun i j => .bl (decide (i < j))) := opB0 fun _ _ _ _ _ _ _ q => lt_int q
theorem op_le : OpR X (compareOp .LtE) (rI0 fun i j => .bl (decide (i ≤ j))) := opB0 fun _ _ _ _ _ _ _ q => le_int q
theorem op_gt : OpR X (compareOp .Gt) (rI0 fun i j => .bl (decide (j < i))) := opB0 fun _ _ _ _ _ _ _ q => gt_int q
theorem op_ge : OpR X (compareOp .GtE) (rI0 fun i j => .bl (decide (j ≤ i))) := opB0 fun _ _ _ _ _ _ _ q => ge_int q
theorem op_in_str : OpR X (compareOp .In) (fun x y H Q => ∃ i j, x = .str i ∧ y = .str j ∧ Q (.bl (!(Builtin.Str.occurrences j i 0 j.length 1).isEmpty)) H) := by
  intro pins s σ H x y v u Q I rx ry h
  obtain ⟨i, j, rfl, rfl, q⟩ := h
  obtain ⟨t, rfl⟩ := rx
  obtain ⟨t', rfl⟩ := ry
  exact in_str (fin_bl I q rfl)
theorem op_notin_str : OpR X (compareOp .NotIn) (fun x y H Q => ∃ i j, x = .str i ∧ y = .str j ∧ Q (.bl (!(!(Builtin.Str.occurrences j i 0 j.length 1).isEmpty))) H) := by
  intro pins s σ H x y v u Q I rx ry h
  obtain ⟨i, j, rfl, rfl, q⟩ := h
  obtain ⟨t, rfl⟩ := rx
  obtain ⟨t', rfl⟩ := ry
  exact notIn_str (fin_bl I q rfl)
theorem nomark (b : Expr) {op : CmpOp} (h : op ≠ .In := by decide) (h2 : op ≠ .NotIn := by decide) : behindInMarks op b = false := by
  have e1 : (op == CmpOp.In) = false := by cases op <;> first | rfl | exact absurd rfl h
  have e2 : (op == CmpOp.NotIn) = false := by cases op <;> first | rfl | exact absurd rfl h2
  cases b <;> simp [behindInMarks, e1, e2]
theorem pe_cmpR {op : CmpOp} {r : R2} (ho : OpR X (compareOp op) r) (ha : PE X a ta) (hb : PE X b tb) (hm : behindInMarks op b = false) : PE X (.Compare a [op] [b] pos) (tOp r ta tb) := by
  intro pins s σ H Q I h
  exact wpAny_Compare1 (binT ha hb I h fun v u s2 x y H2 I2 rx ry q => ho pins s2 σ H2 x y v u Q I2 rx ry q) hm
def tTest (t : TE) : TT := fun σ H Q => t σ H fun x H' => ∃ k, x = .bl k ∧ Q k H'
theorem pt_cmpR {op : CmpOp} {r : R2} (ho : OpR X (compareOp op) r) (ha : PE X a ta) (hb : PE X b tb) (hm : behindInMarks op b = false) : PT X (.Compare a [op] [b] pos) (tTest (tOp r ta tb)) := by
  intro pins s σ H Q I h
  refine wpAny_isTrue_Compare1 (thn (ha pins s σ H _ I h) fun v s1 ⟨x, H1, I1, r1, q1⟩ => thn (hb pins s1 σ H1 _ I1 q1) fun u s2 ⟨y, H2, I2, r2, q2⟩ =>
    thn (ho pins s2 σ H2 x y v u _ I2 r1 r2 q2) fun c s3 ⟨z, H3, I3, r3, k, e, q3⟩ => ?_) hm
  subst e
  cases r3
  exact wpAny_truthy_bool ⟨H3, I3, q3⟩
def tChain (r r' : R2) (ta tb tc : TE) : TE := fun σ H Q => ta σ H fun x H1 => tb σ H1 fun y H2 => r x y H2 fun z H3 => ∃ k, z = .bl k ∧
  (if k = true then tc σ H3 fun w' H4 => r' y w' H4 Q else Q (.bl false) H3)
theorem pt_chain {op op' : CmpOp} {r r' : R2} (ho : OpR X (compareOp op) r) (ho' : OpR X (compareOp op') r') (ha : PE X a ta) (hb : PE X b tb) (hc : PE X c tc)
    (hm : lastMarks [op, op'] [b, c] = false := by with_unfolding_all rfl) : PT X (.Compare a [op, op'] [b, c] pos) (tTest (tChain r r' ta tb tc)) := by
  intro pins s σ H Q I h
  refine isTrue_chain (thn (ha pins s σ H _ I h) fun v s1 ⟨x, H1, I1, r1, q1⟩ => test_link (thn (hb pins s1 σ H1 _ I1 q1) fun u s2 ⟨y, H2, I2, r2, q2⟩ =>
    thn (ho pins s2 σ H2 x y v u _ I2 r1 r2 q2) fun d s3 ⟨z, H3, I3, r3, k, e, q3⟩ => ?_)) hm
  subst e
  cases r3
  refine wpAny_truthy_bool ?_
  cases k with
  | false =>
    obtain ⟨k', e', q'⟩ := q3
    cases e'
    exact ite_ff ⟨H3, I3, q'⟩
  | true =>
    refine ite_tt (test_last (thn (hc pins s3 σ H3 _ I3 q3) fun w' s4 ⟨z', H4, I4, r4, q4⟩ => thn (ho' pins s4 σ H4 y z' u w' _ I4 r2 r4 q4) fun d' s5 ⟨z2, H5, I5, r5, k2, e2, q5⟩ => ?_))
    subst e2
    cases r5
    exact wpAny_truthy_bool ⟨H5, I5, q5⟩
theorem line63 : (sizeLine : Nat) < 2 ^ 63 := by rw [sizeLine_eq]; decide
theorem op_add_str : OpR X (binaryOp .Add) (fun x y H Q => ∃ i j, x = .str i ∧ y = .str j ∧ i.length + j.length ≤ sizeLine ∧ Q (.str (i ++ j)) H) := by
  intro pins s σ H x y v u Q I rx ry h
  obtain ⟨i, j, rfl, rfl, hz, q⟩ := h
  obtain ⟨t, rfl⟩ := rx
  obtain ⟨t', rfl⟩ := ry
  exact add_str (fun t' tk => ⟨.str (i ++ j), H, I.tok _, ⟨_, rfl⟩, q⟩) hz
theorem vals1 {x : V} {us : List Value} (r : Vals [x] us) : ∃ u, us = [u] ∧ RelV x u := by
  cases r with
  | cons r1 r2 => cases r2; exact ⟨_, rfl, r1⟩
theorem vals2 {x y : V} {us : List Value} (r : Vals [x, y] us) : ∃ u w', us = [u, w'] ∧ RelV x u ∧ RelV y w' := by
  cases r with
  | cons r1 r2 =>
    cases r2 with
    | cons r3 r4 => cases r4; exact ⟨_, _, rfl, r1, r3⟩
theorem call_str_int : CallR X (.type "str") (fun xs H Q => ∃ i, xs = [.int i] ∧ i.natAbs.log2 < 1920 ∧ Q (.str (toString i)) H) := by
  intro pins s σ H xs us Q I r h
  obtain ⟨i, rfl, hz, q⟩ := h
  obtain ⟨u, rfl, t, rfl⟩ := vals1 r
  exact PySem.P.str_of_int hz ⟨.str _, H, I.tok _, ⟨_, rfl⟩, q⟩
end
end L2
namespace L2
open PySem PySem.Spec PyProof.Rows
structure ObjM (h : Heap) (x dx C : Addr) (mA : Str → Option Value) : Prop where
  obj : h.get? x = some (PySem.W.instObj C dx)
  ns : h.Ns1 dx mA
  ne : dx ≠ x
theorem lookIn_ns {h : Heap} {dx : Addr} {mA : Str → Option Value} (n : h.Ns1 dx mA) : ∃ od, h.get? dx = some od ∧ ∀ name, PySem.W.lookIn name od = some (mA name) := by
  obtain ⟨o, es, ep, ho, hd, hk, _, hm⟩ := n
  refine ⟨o, ho, fun name => ?_⟩
  have e := hm name
  unfold nsFind findBy at e
  rw [← Array.find?_toList] at e
  unfold PySem.W.lookIn
  rw [hd]
  dsimp only
  split
  · rename_i y q
    rw [q] at e
    exact congrArg some e
  · rename_i q
    rw [q] at e
    have a : es.toList.any (·.refKey) = false := by
      rw [List.any_eq_false]
      intro y hy
      obtain ⟨z, t, hkey⟩ := hk y (Array.mem_toList_iff.mp hy)
      simp [DictEntry.refKey, hkey]
    have a' : ¬ es.toList.any (·.refKey) = true := by rw [a]; exact Bool.false_ne_true
    rw [if_neg a']
    exact congrArg some e
theorem ObjM.look {h : Heap} {x dx C : Addr} {mA : Str → Option Value} (I : ObjM h x dx C mA) : ∃ od, PySem.W.InstAt h x (PySem.W.instObj C dx) C (some od) ∧ ∀ name, PySem.W.lookIn name od = some (mA name) :=
  let ⟨od, ho, hl⟩ := lookIn_ns I.ns
  ⟨od, ⟨I.obj, rfl, rfl, ho⟩, hl⟩
section
variable {prog : Program} {w : World} {A : Around} {E : Value → Shared → Prop} {s : Shared} {K : PySem.W.Frag} {x dx C f : Addr} {mA : Str → Option Value} {name : Str} {v : Value}
theorem get_map {expr : Bool} {Q : Value → Shared → Prop} (X : K.In s.heap) (I : ObjM s.heap x dx C mA) (hg : PySem.W.plainGet K C name = true) (hh : PySem.W.hasDictIn K C = true)
    (ha : PySem.W.findIn K (.ref C) name = some none) (hv : mA name = some v) (hv' : PySem.W.handedIn v = true) (h : Q v { s with toks := s.toks + 1 }) :
    wpAny (model prog w) A (getAttr (.ref x) name expr) Q E s := by
  obtain ⟨od, J, hl⟩ := I.look
  exact PySem.W.get_value X J (PySem.W.plainGet_of hg).1 (PySem.W.findObj_own hh ha rfl (by rw [hl, hv])) hv' h
theorem get_meth {pl : Sem Bool} {Q : Value × List Value → Shared → Prop} (X : K.In s.heap) (I : ObjM s.heap x dx C mA) (hg : PySem.W.plainGet K C name = true)
    (hf : PySem.W.findIn K (.ref C) name = some (some (.ref f))) (ht : PySem.W.isFn K (.ref f) = true) (hv : mA name = none) (h : Q (.ref f, [.ref x]) s) :
    wpAny (model prog w) A (getMethod (.ref x) name pl) Q E s := by
  obtain ⟨od, J, hl⟩ := I.look
  exact PySem.W.method_fn X J (PySem.W.plainGet_of hg).1 (PySem.W.plainGet_of hg).2 hf (beq_iff_eq.mp ht) (by show (PySem.W.lookIn name od).map (·.isSome) = some false; rw [hl, hv]; rfl) h
theorem set_map {ns : List Str} {Q : Unit → Shared → Prop} (X : K.In s.heap) (I : ObjM s.heap x dx C mA)
    (hs : PySem.W.findIn K (.ref C) "__setattr__" = some (some (.builtin "object.__setattr__"))) (hp : PySem.W.plainOver K C = true) (ht : PySem.W.takerIn K C name = some none) (hh : PySem.W.hasDictIn K C = true)
    (hw : PySem.Within mA ns) (hsz : ns.length ≤ sizeLine)
    (h : ∀ h', ObjM h' x dx C (fun y => if y = name then some v else mA y) → Heap.SameBut dx s.heap h' → Q () { s with heap := h', toks := s.toks + 2 }) :
    wpAny (model prog w) A (setAttr (.ref x) name v) Q E s := by
  obtain ⟨od, J, hl⟩ := I.look
  refine PySem.W.set_plain X J hs (PySem.W.osa_open (s := { s with toks := s.toks + 1 }) (r := none) X J hp ht fun b => ?_)
  obtain ⟨cd, hc, hd'⟩ := PySem.W.any_some hh
  have hx : s.heap.get? x = some ⟨.ref C, some dx, .plain, #[]⟩ := I.obj
  refine wpAny_bind (wpAny_pure (wpAny_bind (wpAny_bind (wpAny_loadPart hx (wpAny_bind (PySem.W.Looks.here (s := { s with toks := s.toks + 1 }) (PySem.W.looks_clsIn X hc) ?_))))))
  rw [hd']
  refine wpAny_pure (a := some dx) (wpAny_bind (wpAny_pure (wpAny_bind ?_)))
  refine wpAny_nsSet1 (s := { s with toks := s.toks + 1 }) I.ns fun h' hn2 hs2 => ?_
  obtain ⟨oD, esD, epD, hoD, hdD, hcD⟩ := hn2.count (PySem.Within.cons name v hw)
  refine wpAny_bind (wpAny_lookBehind hoD (by rw [hdD]; exact pastItsLine_dict (Nat.le_trans hcD (by rw [List.length_cons]; omega))) ?_)
  exact wpAny_pure (h _ ⟨(hs2.2 _ (Ne.symm I.ne)).trans I.obj, hn2, I.ne⟩ hs2)
theorem make_map {R : Result → Shared → Prop} {vs : List Value} {kw : List (Str × Value)} (X : K.In s.heap) (hm : PySem.W.makesIn K C = true)
    (hi : PySem.W.findIn K (.ref C) "__init__" = some (some (.ref f))) (hf : PySem.W.typeIn K (.ref f) = some (.type "function"))
    (h : codeAny (model prog w) (A.under (.builtin "type.__call__" ⟨.ref C :: vs, kw⟩)) (.call (.ref f) ⟨.ref (s.heap.objs.size + 1) :: vs, kw⟩) (PySem.W.InitBack (s.heap.objs.size + 1) R)
      { s with heap := (s.heap.push PySem.W.emptyDict).push (PySem.W.instObj C s.heap.objs.size) }) :
    codeAny (model prog w) A (.call (.ref C) ⟨vs, kw⟩) R s := by
  obtain ⟨hh, g, d, t, os⟩ := s
  exact PySem.W.make_core (PySem.W.makes_of X hm) (PySem.W.looks_findIn X hi) (fun self => PySem.W.bind_fn X self hf) (.inl rfl) h
end
def putF (f : Str) (v : V) : List (Str × V) → List (Str × V)
  | [] => [(f, v)]
  | (g, x) :: r => if g = f then (g, v) :: r else (g, x) :: putF f v r
theorem lookup_putF (f g : Str) (v : V) : ∀ fs : List (Str × V), (putF f v fs).lookup g = if g = f then some v else fs.lookup g
  | [] => by
    show List.lookup g [(f, v)] = _
    by_cases h : g = f
    · have hb : (g == f) = true := beq_iff_eq.mpr h
      simp only [List.lookup, hb, if_pos h]
    · have hb : (g == f) = false := beq_eq_false_iff_ne.mpr h
      simp only [List.lookup, hb, if_neg h]
  | (k, x) :: r => by
    have ih := lookup_putF f g v r
    rw [show putF f v ((k, x) :: r) = (if k = f then (k, v) :: r else (k, x) :: putF f v r) from rfl]
    by_cases hk : k = f
    · rw [if_pos hk]
      by_cases h : g = k
      · have hb : (g == k) = true := beq_iff_eq.mpr h
        simp only [List.lookup, hb, if_pos (h.trans hk)]
      · have hb : (g == k) = false := beq_eq_false_iff_ne.mpr h
        simp only [List.lookup, hb, if_neg (fun e : g = f => h (e.trans hk.symm))]
    · rw [if_neg hk]
      by_cases h : g = k
      · have hb : (g == k) = true := beq_iff_eq.mpr h
        simp only [List.lookup, hb, if_neg (fun e : g = f => hk (h.symm.trans e))]
      · have hb : (g == k) = false := beq_eq_false_iff_ne.mpr h
        simp only [List.lookup, hb]
        exact ih
theorem keys_putF (f : Str) (v : V) : ∀ fs : List (Str × V), f ∈ (putF f v fs).map (·.1) ∧ ∀ g, g ∈ fs.map (·.1) → g ∈ (putF f v fs).map (·.1)
  | [] => ⟨by simp [putF], fun g h => by simp at h⟩
  | (k, x) :: r => by
    obtain ⟨i1, i2⟩ := keys_putF f v r
    rw [show putF f v ((k, x) :: r) = (if k = f then (k, v) :: r else (k, x) :: putF f v r) from rfl]
    by_cases hk : k = f
    · rw [if_pos hk]
      subst hk
      exact ⟨by simp, fun g h => by simpa using h⟩
    · rw [if_neg hk]
      refine ⟨?_, fun g h => ?_⟩
      · rw [List.map_cons]
        exact List.mem_cons_of_mem _ i1
      · rw [List.map_cons] at h ⊢
        rcases List.mem_cons.mp h with e | e
        · exact List.mem_cons.mpr (.inl e)
        · exact List.mem_cons_of_mem _ (i2 g e)
theorem length_putF (f : Str) (v : V) : ∀ fs : List (Str × V), (putF f v fs).length ≤ fs.length + 1
  | [] => by simp [putF]
  | (k, x) :: r => by
    have ih := length_putF f v r
    rw [show putF f v ((k, x) :: r) = (if k = f then (k, v) :: r else (k, x) :: putF f v r) from rfl]
    by_cases hk : k = f
    · rw [if_pos hk, List.length_cons, List.length_cons]; omega
    · rw [if_neg hk, List.length_cons, List.length_cons]; omega
theorem RelO.some_of {v : V} {o : Option Value} (r : RelO (some v) o) : ∃ u, o = some u ∧ RelV v u := by
  cases o with
  | none => exact (show False from r).elim
  | some u => exact ⟨u, rfl, r⟩
theorem RelO.none_of {o : Option Value} (r : RelO none o) : o = none := by
  cases o with
  | none => rfl
  | some u => exact (show False from r).elim
theorem handed_of {v : V} {u : Value} (r : RelV v u) : PySem.W.handedIn u = true := by
  cases v with
  | non => cases (show u = Value.none from r); rfl
  | bl b => cases (show u = Value.bool b from r); rfl
  | int i => obtain ⟨t, e⟩ := (show ∃ t, u = Value.int i t from r); cases e; rfl
  | str x => obtain ⟨t, e⟩ := (show ∃ t, u = Value.str x t from r); cases e; rfl
  | byt b => obtain ⟨t, e⟩ := (show ∃ t, u = Value.bytes b t from r); cases e; rfl
  | flt b => obtain ⟨t, e⟩ := (show ∃ t, u = Value.float b t from r); cases e; rfl
  | ref a => cases (show u = Value.ref a from r); rfl
  | ty n => cases (show u = Value.type n from r); rfl
section
variable {P : Program} {w : World} {H H' : Hp} {h h' : Heap} {a C dx : Addr} {fs fs' : List (Str × V)}
theorem ins_get (hok : HOk P w H h) (e : H a = some (.ins C dx fs)) : ∃ mA, ObjM h a dx C mA ∧ (∀ f, RelO (fs.lookup f) (mA f)) ∧ PySem.Within mA (fs.map (·.1)) ∧ fs.length ≤ 1000 ∧ H dx = some (.own a) := by
  obtain ⟨d, z, ne, ob, mA, n, r, q⟩ := (show ObjOk P w H h a (.ins C dx fs) from hok a _ e)
  exact ⟨mA, ⟨ob, n, ne⟩, r, q, z, d⟩
end
structure Cls (K : PySem.W.Frag) (C : Addr) : Prop where
  pg : PySem.W.plainGet K C Str.empty = true
  hd : PySem.W.hasDictIn K C = true
  po : PySem.W.plainOver K C = true
  sa : PySem.W.findIn K (.ref C) "__setattr__" = some (some (.builtin "object.__setattr__"))
theorem Cls.get {K : PySem.W.Frag} {C : Addr} (c : Cls K C) (f : Str) : PySem.W.plainGet K C f = true := c.pg
def NoAttr (K : PySem.W.Frag) (C : Addr) (f : Str) : Prop := PySem.W.findIn K (.ref C) f = some none
theorem NoAttr.taker {K : PySem.W.Frag} {C : Addr} {f : Str} (n : NoAttr K C f) : PySem.W.takerIn K C f = some none := by
  unfold PySem.W.takerIn
  rw [show PySem.W.findIn K (.ref C) f = some none from n]
  rfl
structure Meth (K : PySem.W.Frag) (C : Addr) (m : Str) (f : Addr) : Prop where
  at_ : PySem.W.findIn K (.ref C) m = some (some (.ref f))
  fn : PySem.W.isFn K (.ref f) = true
  kp : PySem.W.keepIn K (.ref f) = true
section
variable {X : Cx} {pins : List (Addr × Obj)} {σ : St} {H : Hp} {s : Shared} {a C dx : Addr} {fs : List (Str × V)} {f : Str} {v : V} {A : Around} {E : Value → Shared → Prop}
theorem getattr_ok {b : Bool} {Q : Value → Shared → Prop} (I : Inv X pins σ H s) (e : H a = some (.ins C dx fs)) (c : Cls X.K C) (n : NoAttr X.K C f) (l : fs.lookup f = some v)
    (h : ∀ u s', Inv X pins σ H s' → RelV v u → Q u s') : wpAny (model X.prog X.w) A (getAttr (.ref a) f b) Q E s := by
  obtain ⟨mA, O, r, _, _, _⟩ := ins_get I.hok e
  obtain ⟨u, hu, ru⟩ := RelO.some_of (v := v) (o := mA f) (by rw [← l]; exact r f)
  exact get_map I.kIn O (c.get f) c.hd n hu (handed_of ru) (h u _ (I.tok _) ru)
theorem getmeth_ok {m : Str} {g : Addr} {pl : Sem Bool} {Q : Value × List Value → Shared → Prop} (I : Inv X pins σ H s) (e : H a = some (.ins C dx fs)) (c : Cls X.K C) (k : Meth X.K C m g) (l : fs.lookup m = none)
    (h : Q (.ref g, [.ref a]) s) : wpAny (model X.prog X.w) A (getMethod (.ref a) m pl) Q E s := by
  obtain ⟨mA, O, r, _, _, _⟩ := ins_get I.hok e
  have hn : mA m = none := RelO.none_of (by rw [← l]; exact r m)
  exact get_meth I.kIn O (c.get m) k.at_ k.fn hn h
theorem setattr_ok {y : V} {u : Value} {Q : Unit → Shared → Prop} (I : Inv X pins σ H s) (e : H a = some (.ins C dx fs)) (c : Cls X.K C) (n : NoAttr X.K C f) (hl : fs.length < 1000) (ry : RelV y u)
    (h : ∀ s', Inv X pins σ (upd H a (.ins C dx (putF f y fs))) s' → Q () s') : wpAny (model X.prog X.w) A (setAttr (.ref a) f u) Q E s := by
  obtain ⟨mA, O, r, wi, _, ho⟩ := ins_get I.hok e
  have hz : (fs.map (·.1)).length ≤ sizeLine := by rw [List.length_map, sizeLine_eq]; omega
  refine set_map I.kIn O c.sa c.po n.taker c.hd wi hz fun h' O' sb => h _ ?_
  have hd : ∃ o, h'.get? dx = some o := let ⟨o, _, _, e', _⟩ := O'.ns; ⟨o, e'⟩
  refine I.write (x := a) (e := dx) (by rw [e]; exact True.intro) (.inr ho) (fun b q hb z => (sb.2 b hb).trans z) hd ?_
  refine ⟨by rw [upd_ne O.ne]; exact ho, ?_, O.ne, O'.obj, _, O'.ns, fun g => ?_, fun g hg => ?_⟩
  · have := length_putF f y fs; omega
  · show RelO ((putF f y fs).lookup g) (if g = f then some u else mA g)
    rw [lookup_putF]
    by_cases q : g = f
    · rw [if_pos q, if_pos q]; exact ry
    · rw [if_neg q, if_neg q]; exact r g
  · by_cases q : g = f
    · rw [q]; exact (keys_putF f y fs).1
    · refine (keys_putF f y fs).2 g (wi g fun z => hg ?_)
      show (if g = f then some u else mA g) = none
      rw [if_neg q]; exact z
theorem Inv.made (I : Inv X pins σ H s) : Inv X pins σ (upd (upd H s.heap.objs.size (.own (s.heap.objs.size + 1))) (s.heap.objs.size + 1) (.ins C s.heap.objs.size []))
    { s with heap := (s.heap.push PySem.W.emptyDict).push (PySem.W.instObj C s.heap.objs.size) } := by
  have e1 : (s.heap.push PySem.W.emptyDict).get? s.heap.objs.size = some PySem.W.emptyDict := Heap.get?_push_size s.heap rfl
  have e2 : ((s.heap.push PySem.W.emptyDict).push (PySem.W.instObj C s.heap.objs.size)).get? (s.heap.objs.size + 1) = some (PySem.W.instObj C s.heap.objs.size) := by
    have := Heap.get?_push_size (s.heap.push PySem.W.emptyDict) (o := PySem.W.instObj C s.heap.objs.size) rfl
    rwa [Heap.size_push] at this
  have e3 : (s.heap.push PySem.W.emptyDict).Ns s.heap.objs.size (fun _ => none) := ⟨PySem.W.emptyDict, #[], _, e1, rfl, (fun e he => absurd he (by simp)), fun _ => rfl⟩
  have I1 := I.laid (a := s.heap.objs.size) (o := .own (s.heap.objs.size + 1)) (h' := s.heap.push PySem.W.emptyDict) (t' := s.toks) (fun b u q => Heap.get?_push_of_some _ q) (Nat.le_refl _) ⟨_, e1⟩
  refine I1.laid (a := s.heap.objs.size + 1) (o := .ins C s.heap.objs.size []) (t' := s.toks) (fun b u q => Heap.get?_push_of_some _ q) (Nat.le_of_eq (Heap.size_push _ _)) ?_
  have ne : s.heap.objs.size ≠ s.heap.objs.size + 1 := Nat.ne_of_lt (Nat.lt_succ_self _)
  refine ⟨by rw [upd_ne ne, upd_same], Nat.zero_le _, ne, e2, fun _ => none, (Heap.Ns1.of_empty e3).at fun o q => Heap.get?_push_of_some _ q, fun _ => True.intro, fun y hy => absurd rfl hy⟩
theorem attr_of {prog : Program} {w : World} {env : Env} {e : Expr} {f : Str} {pos : Pos} {s : Shared} {Q : Value → Shared → Prop} (hb : attributeBase e f env (eval e env) = eval e env)
    (h : wpAny (model prog w) A (eval e env) (fun o s₁ => wpAny (model prog w) A (getAttr o f true) Q E s₁) E s) : wpAny (model prog w) A (eval (.Attribute e f pos) env) Q E s :=
  Attribute_any_ h (by rw [arm_eval_Attribute, hb])
end
def tFld (K : PySem.W.Frag) (ta : TE) (f : Str) : TE := fun σ H Q => ta σ H fun x H1 => ∃ a C dx fs v, x = .ref a ∧ H1 a = some (.ins C dx fs) ∧ Cls K C ∧ NoAttr K C f ∧ fs.lookup f = some v ∧ Q v H1
def sFld (K : PySem.W.Frag) (ta tv : TE) (f : Str) : TS := fun D σ H => tv σ H fun y H1 => ta σ H1 fun x H2 => ∃ a C dx fs, x = .ref a ∧ H2 a = some (.ins C dx fs) ∧ Cls K C ∧ NoAttr K C f ∧ fs.length < 1000 ∧
  D.nx σ (upd H2 a (.ins C dx (putF f y fs)))
section
variable {X : Cx} {o e value : Expr} {f : Str} {pos pos' tpos : Pos} {ta tv : TE}
theorem pe_fld (he : PE X e ta) (hb : attributeBase e f X.env (eval e X.env) = eval e X.env) : PE X (.Attribute e f pos) (tFld X.K ta f) := by
  intro pins s σ H Q I h
  refine attr_of hb (thn (he pins s σ H _ I h) fun u s1 ⟨x, H1, I1, rx, a, C, dx, fs, v, ex, ea, c, n, l, q⟩ => ?_)
  subst ex
  obtain rfl : u = Value.ref a := rx
  exact getattr_ok I1 ea c n l fun u' s2 I2 ru => ⟨v, H1, I2, ru, q⟩
theorem ps_fld (ha : PE X o ta) (hv : PE X value tv) (hs : swapsWith value (some (.Attribute o f pos')) pos.line X.env = pure false) : PS X (.Assign [.Attribute o f pos'] value pos) (sFld X.K ta tv f) := by
  intro pins s σ H D I h
  refine plainObj_wpAny_Assign_Attribute (thn (hv pins s σ H _ I h) fun u s1 ⟨y, H1, I1, ry, q⟩ => thn (ha pins s1 σ H1 _ I1 q) fun ov s2 ⟨x, H2, I2, rx, a, C, dx, fs, ex, ea, c, n, l, q2⟩ => ?_) hs
  subst ex
  obtain rfl : ov = Value.ref a := rx
  exact setattr_ok I2 ea c n l ry fun s3 I3 => ⟨σ, _, I3, q2⟩
end
section
variable {X : Cx} {pins : List (Addr × Obj)} {σ : St} {H : Hp} {s : Shared} {A : Around} {E : Value → Shared → Prop} {Q : Value → Shared → Prop} {c : Value} {b : Bool}
inductive TyOf (K : PySem.W.Frag) (H : Hp) : V → Value → Prop where
  | non : TyOf K H .non (.type "NoneType")
  | bl (x : Bool) : TyOf K H (.bl x) (.type "bool")
  | int (i : Int) : TyOf K H (.int i) (.type "int")
  | str (x : Str) : TyOf K H (.str x) (.type "str")
  | flt (x : UInt64) : TyOf K H (.flt x) (.type "float")
  | lst {a : Addr} {xs : List V} (e : H a = some (.lst xs)) : TyOf K H (.ref a) (.type "list")
  | frz {a : Addr} {o : Obj} {xs : List V} (e : H a = some (.frz o (.lst xs))) : TyOf K H (.ref a) (.type "list")
  | tup {a : Addr} {xs : List V} (e : H a = some (.tup xs)) : TyOf K H (.ref a) (.type "tuple")
  | dK {a : Addr} {kvs : List (Key × V)} (e : H a = some (.dK kvs)) : TyOf K H (.ref a) (.type "dict")
  | dT {a : Addr} {kvs : List (List Key × V)} (e : H a = some (.dT kvs)) : TyOf K H (.ref a) (.type "dict")
  | ins {a C dx : Addr} {fs : List (Str × V)} (e : H a = some (.ins C dx fs)) (cl : Cls K C) (ha : PySem.W.findIn K (.ref C) "__class__" = some (some (.builtin "object.__class__")))
      (hn : PySem.W.specialIn K (.builtin "object.__class__") "__get__" = some (some (.builtin "getset_descriptor.__get__"))) (htk : PySem.W.takesIn K (.builtin "object.__class__") = some true)
      (hm : PySem.W.mroIn K C (.type "object") = some true) : TyOf K H (.ref a) (.ref C)
theorem isinst_ok {x : V} {u t : Value} (I : Inv X pins σ H s) (rx : RelV x u) (ty : TyOf X.K H x t) (e : PySem.W.kitOne X.K t c = some b) (h : ∀ tk, Q (.bool b) { s with toks := tk }) :
    wpAny (model X.prog X.w) A (call (.builtin "isinstance") [u, c]) Q E s := by
  cases ty with
  | non => cases (show u = Value.none from rx); exact PySem.W.kia_one PySem.W.kitx_none I.kIn True.intro e (fun z => nomatch z) h
  | bl y => cases (show u = Value.bool y from rx); exact PySem.W.kia_one PySem.W.kitx_bool I.kIn True.intro e (fun z => nomatch z) h
  | int i => obtain ⟨t, q⟩ := (show ∃ t, u = Value.int i t from rx); cases q; exact PySem.W.kia_one PySem.W.kitx_int I.kIn True.intro e (fun z => nomatch z) h
  | str y => obtain ⟨t, q⟩ := (show ∃ t, u = Value.str y t from rx); cases q; exact PySem.W.kia_one PySem.W.kitx_str I.kIn True.intro e (fun z => nomatch z) h
  | flt y => obtain ⟨t, q⟩ := (show ∃ t, u = Value.float y t from rx); cases q; exact PySem.W.kia_one PySem.W.kitx_float I.kIn True.intro e (fun z => nomatch z) h
  | @lst a xs ea =>
    cases (show u = Value.ref a from rx)
    obtain ⟨_, _, n, _, h1⟩ := (show ObjOk X.prog X.w H s.heap a (.lst xs) from I.hok a _ ea)
    exact PySem.W.kia_one PySem.W.kitx_list I.kIn ⟨_, h1, rfl⟩ e (fun z => nomatch z) h
  | @frz a ob xs ea =>
    cases (show u = Value.ref a from rx)
    obtain ⟨_, _, _, n, _, h1⟩ := (show ObjOk X.prog X.w H s.heap a (.frz ob (.lst xs)) from I.hok a _ ea)
    exact PySem.W.kia_one PySem.W.kitx_list I.kIn ⟨_, h1, rfl⟩ e (fun z => nomatch z) h
  | @tup a xs ea =>
    cases (show u = Value.ref a from rx)
    obtain ⟨_, _, _, p⟩ := (show ObjOk X.prog X.w H s.heap a (.tup xs) from I.hok a _ ea)
    obtain ⟨o, h1, h2, _⟩ := p
    exact PySem.W.kia_one PySem.W.kitx_tuple I.kIn ⟨o, h1, h2⟩ e (fun z => nomatch z) h
  | @dK a kvs ea =>
    cases (show u = Value.ref a from rx)
    obtain ⟨_, _, vs, _, p⟩ := (show ObjOk X.prog X.w H s.heap a (.dK kvs) from I.hok a _ ea)
    obtain ⟨o, es, ep, h1, h2, _⟩ := p
    exact PySem.W.kia_one PySem.W.kitx_dict I.kIn ⟨o, h1, h2.1⟩ e (fun z => nomatch z) h
  | @dT a kvs ea =>
    cases (show u = Value.ref a from rx)
    obtain ⟨_, _, xs, _, o, es, ep, h1, h2, _⟩ := (show ObjOk X.prog X.w H s.heap a (.dT kvs) from I.hok a _ ea)
    exact PySem.W.kia_one PySem.W.kitx_dict I.kIn ⟨o, h1, h2.1⟩ e (fun z => nomatch z) h
  | @ins a C dx fs ea cl ha hn htk hm =>
    cases (show u = Value.ref a from rx)
    obtain ⟨mA, O, _⟩ := ins_get I.hok ea
    obtain ⟨od, J, _⟩ := O.look
    exact PySem.W.kia_one (PySem.W.kitx_own (cl.get _) cl.hd ha hn htk hm) I.kIn J e (fun z => nomatch z) h
end
end L2
namespace L2
open PySem PySem.Spec PyProof.Rows
structure Room (k : Nat) (A : Around) : Prop where
  hd : A.handled = none
  dp : A.depth + 3 * k + 5 < recursionLimit
  un : A.units + 16 * k + 200 < cLine
theorem Room.mono {j k : Nat} {A : Around} (r : Room k A) (h : j ≤ k) : Room j A := ⟨r.hd, by have := r.dp; omega, by have := r.un; omega⟩
theorem Room.deeper {k : Nat} {A : Around} (r : Room (k + 1) A) (env : Env) : Room k (A.deeper env) :=
  ⟨r.hd, by have := r.dp; show A.depth + 1 + 3 * k + 5 < _; omega, by have := r.un; show A.units + 3 + 16 * k + 200 < _; omega⟩
theorem make_depth {A : Around} {C : Addr} {us : List Value} {kw : List (Str × Value)} : (A.under (.builtin "type.__call__" ⟨.ref C :: us, kw⟩)).depth = A.depth + 1 := by
  first | rfl | simp [Around.under, Code.weight, Code.isCreation, Code.isGuard, Code.isCaller, Code.frames, Code.isFrame, guardIds]
theorem make_units {A : Around} {C : Addr} {us : List Value} {kw : List (Str × Value)} : (A.under (.builtin "type.__call__" ⟨.ref C :: us, kw⟩)).units = A.units + 1 := by
  first | rfl | simp [Around.under, Code.cUnits, Code.frames, Code.isFrame]
theorem Room.make {k : Nat} {A : Around} (r : Room (k + 1) A) (C : Addr) (us : List Value) (kw : List (Str × Value)) : Room k (A.under (.builtin "type.__call__" ⟨.ref C :: us, kw⟩)) :=
  ⟨r.hd, by have := r.dp; rw [make_depth]; omega, by have := r.un; rw [make_units]; omega⟩
theorem Room.depth {k : Nat} {A : Around} (r : Room k A) : A.depth < recursionLimit := by have := r.dp; omega
theorem Room.units {k : Nat} {A : Around} (r : Room k A) : A.units + 64 < cLine := by have := r.un; omega
def tNil : TA := fun _ H Q => Q [] H
def tCons (ta : TE) (tr : TA) : TA := fun σ H Q => ta σ H fun x H1 => tr σ H1 fun xs H2 => Q (x :: xs) H2
section
variable {X : Cx} {e : Expr} {es : List Expr} {te : TE} {t : TA} {pos : Pos}
theorem pa_nil : PA X [] tNil := fun _ _ _ _ H Q I h => Calls.spliced_nil ⟨[], H, I, .nil, h⟩
theorem pa_cons (ha : PE X e te) (hr : PA X es t) (hs : starEach (e :: es) X.env = (false, eval e X.env) :: starEach es X.env := by rfl) : PA X (e :: es) (tCons te t) := by
  intro pos pins s σ H Q I h
  rw [hs]
  show wpAny _ _ (spliced ((false, eval e X.env) :: backTo pos (starEach es X.env))) _ _ s
  refine Calls.spliced_cons (thn (ha pins s σ H _ I h) fun u s1 ⟨x, H1, I1, r1, q1⟩ => ?_)
  exact thn (hr pos pins s1 σ H1 _ I1 q1) fun us s2 ⟨xs, H2, I2, r2, q2⟩ => ⟨x :: xs, H2, I2, .cons r1 r2, q2⟩
def tLst (t : TA) : TE := fun σ H Q => t σ H fun xs H1 => xs.length ≤ sizeLine ∧ ∀ p, H1 p = none → Q (.ref p) (upd H1 p (.lst xs))
theorem pe_lst (h : PA X es t) : PE X (.List es pos) (tLst t) := by
  intro pins s σ H Q I hq
  refine wpAny_List_spliced (thn (h pos pins s σ H _ I hq) fun us s1 ⟨xs, H1, I1, r, z, q⟩ => ⟨by rw [← r.length]; exact z, ?_⟩)
  have hf : H1 s1.heap.objs.size = none := I1.hok.fresh (Nat.le_refl _)
  refine ⟨.ref s1.heap.objs.size, upd H1 s1.heap.objs.size (.lst xs), I1.laid (t' := s1.toks) (fun b u e => Heap.get?_push_of_some _ e) (Nat.le_refl _) ?_, rfl, q _ hf⟩
  exact ⟨z, us, 0, r, Heap.get?_push_size _ rfl⟩
end
abbrev Sp := List V → Hp → VK → XK → Prop
abbrev CXT := List Env → Hp → Shared → XK → Value → Shared → Prop
structure Env0 (P : Program) (w : World) (K : PySem.W.Frag) (mg : Str → Option Value) (base : Heap) (A : Around) (outer : List Env) (s : Shared) (H : Hp) : Prop where
  frames : A.frames = some outer
  mod : Mod K mg base
  bs : ∀ b o, base.get? b = some o → s.heap.get? b = some o ∧ H b = none
  bsz : base.objs.size ≤ s.heap.objs.size
  funs : s.heap.FunFrames base outer
  frf : ∀ b ∈ frs outer, H b = none
  hok : HOk P w H s.heap
  bare : AllBare s.gens
def CE (outer : List Env) (P : Program) (w : World) (H : Hp) (s : Shared) (Q : VK) (u : Value) (s' : Shared) : Prop :=
  ∃ v H', s'.os = s.os ∧ AllBare s'.gens ∧ Un (frs outer) [] H H' s.heap s'.heap ∧ HOk P w H' s'.heap ∧ RelV v u ∧ Q v H'
def CR (CX : CXT) (outer : List Env) (P : Program) (w : World) (H : Hp) (s : Shared) (Q : VK) (E : XK) (r : Result) (s' : Shared) : Prop :=
  match r with
  | .ok (.ret u) => CE outer P w H s Q u s'
  | .ok _ => False
  | .error e => CX outer H s E e s'
structure FnOk (P : Program) (w : World) (K : PySem.W.Frag) (mg : Str → Option Value) (base : Heap) (CX : CXT) (k : Nat) (f : Addr) (fd : FuncData) (ps : List Str) (sp : Sp) : Prop where
  len : ∀ vs H Q E, sp vs H Q E → vs.length = ps.length
  run : ∀ (A : Around) (outer : List Env) (s : Shared) (H : Hp) (args : Args) (us : List Value) (vs : List V) (Q : VK) (E : XK), Room k A → Env0 P w K mg base A outer s H → BindsTo s fd args (ps.zip us) → Vals vs us → sp vs H Q E →
    codeAny (model P w) A (.call (.ref f) args) (CR CX outer P w H s Q E) s
theorem Env0.make {P : Program} {w : World} {K : PySem.W.Frag} {mg : Str → Option Value} {base : Heap} {A : Around} {outer : List Env} {s : Shared} {H : Hp} (e : Env0 P w K mg base A outer s H) (C : Addr) (us : List Value) (kw : List (Str × Value)) :
    Env0 P w K mg base (A.under (.builtin "type.__call__" ⟨.ref C :: us, kw⟩)) outer s H := ⟨by first | exact e.frames | (simpa [Around.under, Code.envs, Code.isFrame, pushEnvs] using e.frames), e.mod, e.bs, e.bsz, e.funs, e.frf, e.hok, e.bare⟩
section
variable {X : Cx} {pins : List (Addr × Obj)} {σ : St} {H : Hp} {s s' : Shared}
theorem Inv.env0 (I : Inv X pins σ H s) : Env0 X.prog X.w X.K X.mg X.base X.A X.stack s H :=
  ⟨I.ok.frames, I.ok.mod, I.bs, Nat.le_trans I.ok.bsz I.sz, I.stack, I.stkFree, I.hok, I.bare⟩
theorem Inv.after {Q : VK} {u : Value} (I : Inv X pins σ H s) (h : CE X.stack X.prog X.w H s Q u s') : EP X pins σ Q u s' := by
  obtain ⟨v, H', os, bare, un, hok, r, q⟩ := h
  obtain ⟨hh, g, d, t, os'⟩ := s'
  obtain rfl : os' = s.os := os
  exact ⟨v, H', I.call (h' := hh) (g' := g) (d' := d) (t' := t) (ch := []) un hok bare (fun b z => absurd z (by simp)), r, q⟩
end
def tCall (sp : Sp) (dvs : List V) (E : XK) (t : TA) : TE := fun σ H Q => t σ H fun vs H1 => sp (vs ++ dvs) H1 Q E
def tMeth (C : Addr) (m : Str) (sp : Sp) (dvs : List V) (E : XK) (ta : TE) (t : TA) : TE := fun σ H Q => ta σ H fun x H1 => ∃ a dx fs, x = .ref a ∧ H1 a = some (.ins C dx fs) ∧ fs.lookup m = none ∧
  t σ H1 fun vs H2 => sp (x :: (vs ++ dvs)) H2 Q E
def tMake (C : Addr) (sp : Sp) (dvs : List V) (E : XK) (t : TA) : TE := fun σ H Q => t σ H fun vs H1 => ∀ x dx, H1 x = none → H1 dx = none → dx ≠ x →
  sp (.ref x :: (vs ++ dvs)) (upd (upd H1 dx (.own x)) x (.ins C dx [])) (fun v H2 => v = .non ∧ Q (.ref x) H2) E
def Binds (K : PySem.W.Frag) (fd : FuncData) (ps : List Str) (ds : List Value) : Prop :=
  ∀ (s : Shared) (us : List Value), K.In s.heap → (us ++ ds).length = ps.length → BindsTo s fd ⟨us, []⟩ (ps.zip (us ++ ds))
theorem Binds.all {K : PySem.W.Frag} {fd : FuncData} {ps : List Str} (h : ∀ us : List Value, us.length = ps.length → bindArgs fd ⟨us, []⟩ = pure (ps.zip us)) : Binds K fd ps [] := fun s us _ hl => by
  rw [List.append_nil] at hl ⊢
  exact .of_eq (h us hl)
def Passes (CX : CXT) (X : Cx) (E : XK) : Prop := ∀ (pins : List (Addr × Obj)) (σ : St) (H : Hp) (s : Shared) (e : Value) (s' : Shared), Inv X pins σ H s → CX X.stack H s E e s' → X.xe e s'
section
variable {X : Cx} {CX : CXT} {k : Nat} {f C : Addr} {fd : FuncData} {ps : List Str} {sp : Sp} {dvs : List V} {ds : List Value} {E : XK} {x m : Str} {p pos apos : Pos} {e o : Expr} {es : List Expr} {ta : TE} {t : TA}
theorem run_fn {pins : List (Addr × Obj)} {σ : St} {H : Hp} {s : Shared} {Q : VK} {us : List Value} {vs : List V} (F : FnOk X.prog X.w X.K X.mg X.base CX k f fd ps sp) (hr : Room k X.A) (hb : Binds X.K fd ps ds) (hd : Vals dvs ds) (hx : Passes CX X E)
    (I : Inv X pins σ H s) (r : Vals vs us) (h : sp (vs ++ dvs) H Q E) : wpAny (model X.prog X.w) X.A (call (.ref f) us) (EP X pins σ Q) X.xe s := by
  have r2 : Vals (vs ++ dvs) (us ++ ds) := r.append hd
  have hl : (us ++ ds).length = ps.length := by rw [← r2.length]; exact F.len _ _ _ _ h
  refine wpAny_call (codeAny_mono (F.run X.A X.stack s H ⟨us, []⟩ (us ++ ds) (vs ++ dvs) Q E hr I.env0 (hb s us I.kIn hl) r2 h) fun r s' hq => ?_)
  cases r with
  | error e => exact hx pins σ H s e s' I hq
  | ok fl =>
    cases fl with
    | ret u => exact I.after hq
    | next => exact False.elim hq
    | brk => exact False.elim hq
    | cont => exact False.elim hq
theorem pe_call (F : FnOk X.prog X.w X.K X.mg X.base CX k f fd ps sp) (hr : Room k X.A) (hg : Gl X x) (hm : X.mg x = some (.ref f)) (hk : PySem.W.keepIn X.K (.ref f) = true) (hb : Binds X.K fd ps ds) (hd : Vals dvs ds) (hx : Passes CX X E)
    (ha : PA X (e :: es) t) (hdb : (x == ("__debug__" : Str)) = false := by decide) (he : starEach (e :: es) X.env = (false, eval e X.env) :: starEach es X.env := by rfl) (hpl : (backTo pos (starEach es X.env)).any (·.1) = false := by rfl) :
    PE X (.Call (.Name x p) (e :: es) [] pos) (tCall sp dvs E t) := by
  intro pins s σ H Q I h
  refine wpAny_Call_Name_kw (ld_glob I hg hm ?_ hdb)
  refine PySem.W.callWith_K (h₀ := X.base) I.ok.mod.kin hk (thn (ha pos pins s σ H _ I h) fun us s1 ⟨vs, H1, I1, r, q⟩ => ⟨I1.kIn, ?_⟩) he hpl
  exact run_fn F hr hb hd hx I1 r q
theorem pe_meth {pl : Sem Bool} (he : PE X o ta) (c : Cls X.K C) (hm : Meth X.K C m f) (F : FnOk X.prog X.w X.K X.mg X.base CX k f fd ps sp) (hr : Room k X.A) (hb : Binds X.K fd ps ds) (hd : Vals dvs ds) (hx : Passes CX X E) (ha : PA X (e :: es) t)
    (hst : starEach (e :: es) X.env = (false, eval e X.env) :: starEach es X.env := by rfl) (hpl : (backTo pos (starEach es X.env)).any (·.1) = false := by rfl)
    (ht : eval (.Call (.Attribute o m apos) (e :: es) [] pos) X.env = (do
      let ov ← eval o X.env
      standAt apos.atName
      let (f, first) ← holding [ov] (getMethod ov m pl)
      callWith pos f first (backTo pos (starEach (e :: es) X.env)) (backToKw pos (keywordEach [] X.env))) := by rfl) :
    PE X (.Call (.Attribute o m apos) (e :: es) [] pos) (tMeth C m sp dvs E ta t) := by
  intro pins s σ H Q I h
  refine PySem.W.methodCall_KW (pl := pl) (thn (he pins s σ H _ I h) fun u s1 ⟨x, H1, I1, rx, a, dx, fs, ex, ea, l, q⟩ => ?_) ht
  subst ex
  obtain rfl : u = Value.ref a := rx
  refine getmeth_ok I1 ea c hm l ?_
  refine PySem.W.callWith_K (first := [.ref a]) (h₀ := X.base) I.ok.mod.kin hm.kp (thn (ha pos pins s1 σ H1 _ I1 q) fun us s2 ⟨vs, H2, I2, r, q2⟩ => ⟨I2.kIn, ?_⟩) hst hpl
  exact run_fn (us := .ref a :: us) (vs := .ref a :: vs) F hr hb hd hx I2 (.cons rfl r) q2
structure Mk (K : PySem.W.Frag) (C f : Addr) : Prop where
  makes : PySem.W.makesIn K C = true
  init : PySem.W.findIn K (.ref C) "__init__" = some (some (.ref f))
  fn : PySem.W.isFn K (.ref f) = true
  kp : PySem.W.keepIn K (.ref C) = true
theorem run_make {pins : List (Addr × Obj)} {σ : St} {H : Hp} {s : Shared} {Q : VK} {us : List Value} {vs : List V} (M : Mk X.K C f) (F : FnOk X.prog X.w X.K X.mg X.base CX k f fd ps sp) (hr : Room (k + 1) X.A) (hb : Binds X.K fd ps ds) (hd : Vals dvs ds)
    (hx : Passes CX X E) (I : Inv X pins σ H s) (r : Vals vs us)
    (h : ∀ x dx, H x = none → H dx = none → dx ≠ x → sp (.ref x :: (vs ++ dvs)) (upd (upd H dx (.own x)) x (.ins C dx [])) (fun v H2 => v = .non ∧ Q (.ref x) H2) E) :
    wpAny (model X.prog X.w) X.A (call (.ref C) us) (EP X pins σ Q) X.xe s := by
  have hq := h (s.heap.objs.size + 1) s.heap.objs.size (I.hok.fresh (Nat.le_succ _)) (I.hok.fresh (Nat.le_refl _)) (Nat.ne_of_lt (Nat.lt_succ_self _))
  have I2 := Inv.made (C := C) I
  have r2 : Vals (V.ref (s.heap.objs.size + 1) :: (vs ++ dvs)) (Value.ref (s.heap.objs.size + 1) :: (us ++ ds)) := .cons rfl (r.append hd)
  have hl : (Value.ref (s.heap.objs.size + 1) :: us ++ ds).length = ps.length := by
    have e := r2.length
    rw [F.len _ _ _ _ hq] at e
    exact e.symm
  refine wpAny_call (make_map (f := f) I.kIn M.makes M.init (beq_iff_eq.mp M.fn) (codeAny_mono (F.run _ X.stack _ _ ⟨Value.ref (s.heap.objs.size + 1) :: us, []⟩ (Value.ref (s.heap.objs.size + 1) :: (us ++ ds)) _ _ E (hr.make C us [])
    (I2.env0.make C us []) (hb _ (Value.ref (s.heap.objs.size + 1) :: us) I2.kIn hl) r2 hq) fun r s' hq' => ?_))
  cases r with
  | error e => exact hx pins σ _ _ e s' I2 hq'
  | ok fl =>
    cases fl with
    | ret u =>
      obtain ⟨v, H', I3, rv, ev, q3⟩ := I2.after hq'
      subst ev
      exact ⟨rv, ⟨V.ref (s.heap.objs.size + 1), H', I3, rfl, q3⟩⟩
    | next => exact False.elim hq'
    | brk => exact False.elim hq'
    | cont => exact False.elim hq'
theorem pe_make (M : Mk X.K C f) (F : FnOk X.prog X.w X.K X.mg X.base CX k f fd ps sp) (hr : Room (k + 1) X.A) (hg : Gl X x) (hm : X.mg x = some (.ref C)) (hb : Binds X.K fd ps ds) (hd : Vals dvs ds) (hx : Passes CX X E)
    (ha : PA X (e :: es) t) (hdb : (x == ("__debug__" : Str)) = false := by decide) (he : starEach (e :: es) X.env = (false, eval e X.env) :: starEach es X.env := by rfl) (hpl : (backTo pos (starEach es X.env)).any (·.1) = false := by rfl) :
    PE X (.Call (.Name x p) (e :: es) [] pos) (tMake C sp dvs E t) := by
  intro pins s σ H Q I h
  refine wpAny_Call_Name_kw (ld_glob I hg hm ?_ hdb)
  refine PySem.W.callWith_K (h₀ := X.base) I.ok.mod.kin M.kp (thn (ha pos pins s σ H _ I h) fun us s1 ⟨vs, H1, I1, r, q⟩ => ⟨I1.kIn, ?_⟩) he hpl
  exact run_make M F hr hb hd hx I1 r q
end
section
variable {X : Cx} {CX : CXT} {k : Nat} {f C : Addr} {fd : FuncData} {ps ks : List Str} {sp : Sp} {E : XK} {x m : Str} {p pos apos kpos : Pos} {e o : Expr} {es : List Expr} {kws : List Keyword} {te ta : TE} {t tk : TA} {nm : Option Str}
variable {g : List Value → List Value → List Value} {gV : List V → List V → List V}
end
structure FnScope (N P : List Str) (sc : Scope) : Prop where
  kind : sc.kind = .function
  co : sc.isCoroutine = false
  gen : sc.isGenerator = false
  nd : N.Nodup
  pre : N.take P.length = P
  par : ∀ x ∈ P, sc.names.lookup x = some .local ∨ sc.names.lookup x = some .cell
  nofree : ∀ y ∈ sc.names, y.2 ≠ .free
theorem bindL_out {kindOf : Str → Option NameKind} {x : Str} : ∀ {binds : List (Str × Value)} {m : Str → Option Value}, (∀ v, (x, v) ∉ binds) → bindL kindOf binds m x = m x
  | [], _, _ => rfl
  | (n, v) :: r, m, h => by
    unfold bindL
    rw [bindL_out fun w hw => h w (List.mem_cons_of_mem _ hw)]
    split
    · have : x ≠ n := by rintro rfl; exact h v List.mem_cons_self
      simp [this]
    · rfl
theorem bindC_out {kindOf : Str → Option NameKind} {x : Str} : ∀ {binds : List (Str × Value)} {m : Str → Option Value}, (∀ v, (x, v) ∉ binds) → bindC kindOf binds m x = m x
  | [], _, _ => rfl
  | (n, v) :: r, m, h => by
    unfold bindC
    rw [bindC_out fun w hw => h w (List.mem_cons_of_mem _ hw)]
    split
    · rfl
    · have : x ≠ n := by rintro rfl; exact h v List.mem_cons_self
      simp [this]
theorem bindL_get {kindOf : Str → Option NameKind} {x : Str} {v : Value} : ∀ {P : List Str} {vs : List Value} {i : Nat} {m : Str → Option Value}, P.Nodup → P[i]? = some x → vs[i]? = some v → kindOf x = some .local →
    bindL kindOf (P.zip vs) m x = some v
  | [], _, _, _, _, h, _, _ => by simp at h
  | _ :: _, [], _, _, _, _, h, _ => by simp at h
  | p :: P, w :: vs, 0, m, nd, h1, h2, hk => by
    simp at h1 h2; subst h1; subst h2
    show bindL kindOf ((p, w) :: P.zip vs) m p = _
    unfold bindL
    rw [bindL_out fun v hv => (List.nodup_cons.mp nd).1 (List.of_mem_zip hv).1, if_pos hk]
    simp
  | p :: P, w :: vs, i + 1, m, nd, h1, h2, hk => by
    show bindL kindOf ((p, w) :: P.zip vs) m x = _
    unfold bindL
    exact bindL_get (i := i) (List.nodup_cons.mp nd).2 (by simpa using h1) (by simpa using h2) hk
theorem bindC_get {kindOf : Str → Option NameKind} {x : Str} {v : Value} : ∀ {P : List Str} {vs : List Value} {i : Nat} {m : Str → Option Value}, P.Nodup → P[i]? = some x → vs[i]? = some v → kindOf x ≠ some .local →
    bindC kindOf (P.zip vs) m x = some v
  | [], _, _, _, _, h, _, _ => by simp at h
  | _ :: _, [], _, _, _, _, h, _ => by simp at h
  | p :: P, w :: vs, 0, m, nd, h1, h2, hk => by
    simp at h1 h2; subst h1; subst h2
    show bindC kindOf ((p, w) :: P.zip vs) m p = _
    unfold bindC
    rw [bindC_out fun v hv => (List.nodup_cons.mp nd).1 (List.of_mem_zip hv).1, if_neg hk]
    simp
  | p :: P, w :: vs, i + 1, m, nd, h1, h2, hk => by
    show bindC kindOf ((p, w) :: P.zip vs) m x = _
    unfold bindC
    exact bindC_get (i := i) (List.nodup_cons.mp nd).2 (by simpa using h1) (by simpa using h2) hk
def start (N : List Str) (vs : List V) : St := vs.map some ++ List.replicate (N.length - vs.length) none
def cxOf (CX : CXT) (P : Program) (w : World) (K : PySem.W.Frag) (mg : Str → Option Value) (base : Heap) (N : List Str) (qual : Str) (scope : Scope) (f : Addr) (cd : Value) (A : Around) (outer : List Env) (s : Shared) (H : Hp) (E : XK) : Cx where
  prog := P
  w := w
  K := K
  mg := mg
  base := base
  A := A.deeper (envOfC qual scope s.heap.objs.size f cd)
  N := N
  s₀ := s
  H₀ := H
  env := envOfC qual scope s.heap.objs.size f cd
  outer := outer
  stack := envOfC qual scope s.heap.objs.size f cd :: outer
  ex := []
  calm := true
  mild := true
  fn := fun _ => true
  pn := []
  xe := fun e s' => wpAny (model P w) (A.deeper (envOfC qual scope s.heap.objs.size f cd)) (leaving (envOfC qual scope s.heap.objs.size f cd) e) (fun _ s'' => CX outer H s E e s'') (fun e' s'' => CX outer H s E e' s'') s'
theorem cell_has {sc : Scope} {n : Nat} {x : Str} (h : sc.names.lookup x = some .cell) : ∃ c, (cellsFrom n sc.names []).lookup x = some c := by
  have q := PySem.W.cellsFrom_some sc.names n [] (.inl h)
  exact Option.isSome_iff_exists.mp q
theorem inv_start {CX : CXT} {P : Program} {w : World} {K : PySem.W.Frag} {mg : Str → Option Value} {base : Heap} {N ps : List Str} {qual : Str} {scope : Scope} {f : Addr} {cd : Value} {A : Around} {outer : List Env} {s s1 : Shared} {H : Hp} {E : XK} {us : List Value} {vs : List V}
    (S : FnScope N ps scope) (hd : A.handled = none) (e0 : Env0 P w K mg base A outer s H) (hl : vs.length = ps.length) (r : Vals vs us)
    (x : InCallC s s.heap.objs.size (bindL (envOfC qual scope s.heap.objs.size f cd).kindOf (ps.zip us) fun _ => none) (cellsFrom (s.heap.objs.size + 1) scope.names []) (bindC (envOfC qual scope s.heap.objs.size f cd).kindOf (ps.zip us) fun _ => none) s1) :
    Inv (cxOf CX P w K mg base N qual scope f cd A outer s H E) [] (start N vs) H s1 := by
  have hpl : ps.length ≤ N.length := by have := congrArg List.length S.pre; rw [List.length_take] at this; omega
  obtain ⟨h1, tk, rfl, hk⟩ := x.done
  have noA : ∀ b : Addr, b ∉ (cxOf CX P w K mg base N qual scope f cd A outer s H E).ex := fun b z => absurd (show b ∈ ([] : List Addr) from z) (by simp)
  refine ⟨⟨e0.mod, S.kind, rfl, rfl, Nat.le_refl _, fun y z c h1 h2 => ?_, fun y hy => ?_, fun y c _ h => ?_, fun _ => hd, fun _ => .inl hd, Around.frames_deeper e0.frames, .inr ⟨rfl, rfl⟩, fun b z => absurd z (noA b), e0.bs, e0.bsz, fun b _ _ => noA b, fun b z => absurd z (noA b), e0.funs, e0.frf⟩,
    rfl, e0.bare, Un.kept hk, ⟨_, x.toInCall.ns, fun i y v h1 h2 h3 => ?_⟩, fun y c h => ⟨_, x.cell y c h⟩, e0.hok.fresh (Nat.le_refl _), fun y c h => ?_, fun p hp => absurd (show p ∈ ([] : List (Addr × Obj)) from hp) (by simp), e0.hok.kept hk, ?_⟩
  · exact name_of_addr x.apart (PySem.mem_of_lookup h1) (PySem.mem_of_lookup h2)
  · have hy : scope.names.lookup y = some .cell ∨ scope.names.lookup y = some .free := hy
    rcases hy with hy | hy
    · exact cell_has hy
    · exact absurd rfl (S.nofree _ (PySem.mem_of_lookup hy))
  · exact Nat.le_of_lt (x.above y c (PySem.mem_of_lookup h))
  · have hi : i < vs.length := by
      unfold start at h2
      by_cases hi : i < vs.length
      · exact hi
      · rw [List.getElem?_append_right (by simpa using hi)] at h2
        rw [List.getElem?_replicate] at h2
        split at h2 <;> cases h2
    have ha : vs[i]? = some v := by
      unfold start at h2
      rw [List.getElem?_append_left (by simpa using hi), List.getElem?_map] at h2
      cases e : vs[i]? with
      | none => rw [e] at h2; cases h2
      | some a => rw [e] at h2; cases h2; rfl
    obtain ⟨u, hu, rv⟩ := r.get ha
    have hp : ps[i]? = some y := by
      rw [← S.pre, List.getElem?_take_of_lt (by omega)]; exact h1
    have ndP : ps.Nodup := by rw [← S.pre]; exact S.nd.sublist (List.take_sublist _ _)
    refine ⟨u, rv, ?_⟩
    rcases S.par y (List.mem_of_getElem? hp) with k | k
    · exact .inl ⟨k, bindL_get ndP hp hu k⟩
    · obtain ⟨c, e⟩ := cell_has (n := s.heap.objs.size + 1) k
      refine .inr ⟨.inl k, c, e, ?_⟩
      have q := x.cell y c e
      rw [bindC_get ndP hp hu (by show scope.names.lookup y ≠ _; rw [k]; decide)] at q
      exact q
  · exact e0.hok.fresh (Nat.le_of_lt (x.above y c (PySem.mem_of_lookup h)))
  · unfold start
    show _ = N.length
    rw [List.length_append, List.length_map, List.length_replicate]
    omega
theorem fn_of {CX : CXT} {P : Program} {w : World} {K : PySem.W.Frag} {mg : Str → Option Value} {base : Heap} {k : Nat} {f : Addr} {name qual : Str} {params : Arguments} {body : List Stmt} {scope : Scope} {dV kV doc pm cdv ct oc : Value} {an od : Option Addr}
    {osl : Array (Option Value)} {N ps : List Str} {sp : Sp} (lk : K.lookup f = some ⟨oc, od, .func (PySem.W.fnOf name qual params body scope dV kV doc pm an cdv ct), osl⟩) (hcd : PySem.W.codeIn K cdv qual = true) (S : FnScope N ps scope)
    (len : ∀ vs H Q E, sp vs H Q E → vs.length = ps.length)
    (hbody : ∀ (A : Around) (outer : List Env) (s : Shared) (H : Hp) (vs : List V) (Q : VK) (E : XK), Room k (A.deeper (envOfC qual scope s.heap.objs.size f cdv)) → sp vs H Q E →
      ∃ t, PSs (cxOf CX P w K mg base N qual scope f cdv A outer s H E) body t ∧ t { nx := fun _ H' => Q .non H', rt := Q } (start N vs) H) :
    FnOk P w K mg base CX (k + 1) f (PySem.W.fnOf name qual params body scope dV kV doc pm an cdv ct) ps sp := by
  refine ⟨len, fun A outer s H args us vs Q E hr e0 hb r hsp => ?_⟩
  have hl := len _ _ _ _ hsp
  have KX : K.In s.heap := e0.mod.kin.keeps fun b o e => (e0.bs b o e).1
  have lim : s.heap.NoLimit := e0.mod.nolimit.keeps fun b o e => (e0.bs b o e).1
  have hkind : ∀ y ∈ ps.zip us, scope.names.lookup y.1 = some .local ∨ (scope.names.lookup y.1 = some .cell ∧ ((cellsFrom (s.heap.objs.size + 1) scope.names []).lookup y.1).isSome = true) := fun ⟨n, v⟩ hy => by
    rcases S.par n (List.of_mem_zip hy).1 with q | q
    · exact .inl q
    · exact .inr ⟨q, PySem.W.cellsFrom_some _ _ _ (.inl q)⟩
  refine codeAny_call_function hr.depth (KX _ _ lk) rfl S.co S.gen rfl (PySem.W.codeRec_of KX hcd) (hb _ _ _ _ ?_)
  refine wpAny_newFunctionEnv_cells S.kind hkind fun env he s1 x => ?_
  subst he
  refine ⟨lim.keeps x.toInCall.keep, codeAny_func ?_⟩
  obtain ⟨t, ht, hq⟩ := hbody A outer s H vs Q E (hr.deeper _) hsp
  have I : Inv (cxOf CX P w K mg base N qual scope f cdv A outer s H E) [] (start N vs) H s1 := inv_start S hr.hd e0 hl r x
  refine wpAny_mono (ht [] s1 (start N vs) H _ I hq) (fun fl s' hs => ?_) fun e s' hs => hs
  have fin : ∀ {σ' : St} {H' : Hp} {v : V} {u : Value}, Inv (cxOf CX P w K mg base N qual scope f cdv A outer s H E) [] σ' H' s' → RelV v u → Q v H' → CE outer P w H s Q u s' :=
    fun {σ' H' v u} J rv q => ⟨v, H', J.os, J.bare, J.base, J.hok, rv, q⟩
  cases fl with
  | ret u =>
    obtain ⟨v, σ', H', J, rv, q⟩ := hs
    exact fin J rv q
  | next =>
    obtain ⟨σ', H', J, q⟩ := hs
    exact fin (v := V.non) (u := Value.none) J rfl q
  | brk =>
    obtain ⟨_, _, _, q⟩ := hs
    exact False.elim q
  | cont =>
    obtain ⟨_, _, _, q⟩ := hs
    exact False.elim q
end L2
namespace L2
open PySem PySem.Spec PyProof.Rows
section
variable {X : Cx} {x : Str} {p pos : Pos} {e : Expr} {es : List Expr} {t : TA} {id T : String} {r : List V → Hp → VK → Prop}
def tCB (r : List V → Hp → VK → Prop) (t : TA) : TE := fun σ H Q => t σ H fun vs H1 => r vs H1 Q
theorem pe_callB (hc : CallR X (.builtin id) r) (hg : Gl X x) (hm : X.mg x = none) (hv : bootBuiltins x = some (.builtin id)) (ha : PA X (e :: es) t) (hn : x ≠ "__name__" := by decide) (hdb : (x == ("__debug__" : Str)) = false := by decide)
    (he : starEach (e :: es) X.env = (false, eval e X.env) :: starEach es X.env := by rfl) (hpl : (backTo pos (starEach es X.env)).any (·.1) = false := by rfl) : PE X (.Call (.Name x p) (e :: es) [] pos) (tCB r t) := by
  intro pins s σ H Q I h
  refine wpAny_Call_Name_kw (ld_blt I hg hm hv ?_ hn hdb)
  exact PyProof.Rows.callWith_builtin1 (thn (ha pos pins s σ H _ I h) fun us s1 ⟨vs, H1, I1, r1, q1⟩ => hc pins s1 σ H1 vs us Q I1 r1 q1) he hpl
theorem pe_callTy (hc : CallR X (.type T) r) (hg : Gl X x) (hm : X.mg x = none) (hv : bootBuiltins x = some (.type T)) (ha : PA X (e :: es) t) (hn : x ≠ "__name__" := by decide) (hdb : (x == ("__debug__" : Str)) = false := by decide)
    (he : starEach (e :: es) X.env = (false, eval e X.env) :: starEach es X.env := by rfl) (hpl : (backTo pos (starEach es X.env)).any (·.1) = false := by rfl) : PE X (.Call (.Name x p) (e :: es) [] pos) (tCB r t) := by
  intro pins s σ H Q I h
  refine wpAny_Call_Name_kw (ld_blt I hg hm hv ?_ hn hdb)
  exact PyProof.Rows.callWith_type1 (thn (ha pos pins s σ H _ I h) fun us s1 ⟨vs, H1, I1, r1, q1⟩ => hc pins s1 σ H1 vs us Q I1 r1 q1) he hpl
end
end L2
namespace HT
open PySem PyProof.Rows
section
open PySem.SeqAt
open PySem.AutoSeq1 (wpAny_loadPart')
open PySem.MeetsSeq PySem.MeetsSeq2 PySem.MeetsSeq3
end
section
variable {prog : Program} {w : World} {A : Around} {E : Value → Shared → Prop} {s : Shared}
def sIx (n d : Nat) : Option Int → Nat
  | none => d
  | some v => if v < 0 then (v + (n : Int)).toNat else min v.toNat n
theorem sIx_none (n d : Nat) : sIx n d none = d := rfl
theorem sIx_nat (n d k : Nat) : sIx n d (some (k : Int)) = min k n := by
  show (if (k : Int) < 0 then ((k : Int) + (n : Int)).toNat else min (k : Int).toNat n) = min k n
  rw [if_neg (by omega), Int.toNat_natCast]
end
end HT
namespace L2
open PySem PySem.Spec PyProof.Rows
abbrev TO := St → Hp → (Option Int → Hp → Prop) → Prop
def PO (X : Cx) (e : Option Expr) (t : TO) : Prop :=
  ∀ (pins : List (Addr × Obj)) (s : Shared) (σ : St) (H : Hp) (Q : Option Int → Hp → Prop), Inv X pins σ H s → t σ H Q →
    wpAny (model X.prog X.w) X.A (evalPart e X.env) (fun u s' => ∃ o H', Inv X pins σ H' s' ∧ IsPart u o ∧ Q o H') X.xe s
def tNoPart : TO := fun _ H Q => Q none H
def tPart (t : TE) : TO := fun σ H Q => t σ H fun x H1 => ∃ i, x = .int i ∧ Q (some i) H1
theorem intsAre_of {ns : List Int} : ∀ {us : List Value}, Vals (ns.map V.int) us → IntsAre us ns := by
  induction ns with
  | nil => intro us r; rw [List.map_nil] at r; cases r; exact .nil
  | cons n ns ih =>
    intro us r
    rw [List.map_cons] at r
    cases r with
    | cons r1 r2 =>
      obtain ⟨t, e⟩ := r1
      subst e
      exact .cons n t (ih r2)
section
variable {X : Cx} {e : Expr} {te : TE} {lo hi : Option Expr} {tl th : TO} {pos p2 : Pos}
theorem po_none : PO X none tNoPart := by
  intro pins s σ H Q I h
  rw [evalPart_none]
  exact wpAny_pure ⟨none, H, I, .none, h⟩
theorem po_some (h : PE X e te) : PO X (some e) (tPart te) := by
  intro pins s σ H Q I hw
  rw [evalPart_some]
  refine thn (h pins s σ H _ I hw) fun u s1 ⟨x, H1, I1, r1, q1⟩ => ?_
  obtain ⟨i, rfl, q⟩ := q1
  obtain ⟨t, rfl⟩ := r1
  exact ⟨some i, H1, I1, .int i t, q⟩
def SlR (X : Cx) (r : V → Option Int → Option Int → Hp → VK → Prop) : Prop :=
  ∀ (pins : List (Addr × Obj)) (s : Shared) (σ : St) (H : Hp) (x : V) (v vl vu : Value) (lo hi : Option Int) (sl : Addr) (Q : VK), Inv X pins σ H s → RelV x v → s.heap.IsSliceOf sl vl vu .none → IsPart vl lo → IsPart vu hi → r x lo hi H Q →
    ∃ T id, typeLookup (.type T) "__getitem__" = pure (some (.builtin id)) ∧ s.TypeIs v T ∧ wpAny (model X.prog X.w) X.A (getItem v (.ref sl)) (EP X pins σ Q) X.xe s
def tSl (r : V → Option Int → Option Int → Hp → VK → Prop) (te : TE) (tl th : TO) : TE := fun σ H Q => te σ H fun x H1 => tl σ H1 fun l H2 => th σ H2 fun u H3 => r x l u H3 Q
theorem pe_slice {r : V → Option Int → Option Int → Hp → VK → Prop} (hr : SlR X r) (he : PE X e te) (hl : PO X lo tl) (hu : PO X hi th) : PE X (.Subscript e (.Slice lo hi none p2) pos) (tSl r te tl th) := by
  intro pins s σ H Q I h
  refine Subscript_ (thn (he pins s σ H _ I h) fun v s1 ⟨x, H1, I1, r1, q1⟩ => ?_)
  refine wpAny_Slice (thn (hl pins s1 σ H1 _ I1 q1) fun vl s2 ⟨l, H2, I2, pl, q2⟩ => thn (hu pins s2 σ H2 _ I2 q2) fun vu s3 ⟨u, H3, I3, pu, q3⟩ => ?_)
  rw [evalPart_none]
  refine wpAny_pure ?_
  have I4 : Inv X pins σ H3 { s3 with heap := s3.heap.push { cls := .type "slice", data := .fields #[vl, vu, .none] } } := I3.kept (t' := s3.toks) fun b ob q => Heap.get?_push_of_some _ q
  obtain ⟨T, id, hT, ht, hg⟩ := hr pins { s3 with heap := s3.heap.push { cls := .type "slice", data := .fields #[vl, vu, .none] } } σ H3 x v vl vu l u s3.heap.objs.size Q I4 r1 (Heap.IsSliceOf.new ..) pl pu q3
  show wpAny (model X.prog X.w) X.A (subscriptTail e (.Slice lo hi none p2) v (.ref s3.heap.objs.size)) (EP X pins σ Q) X.xe { s3 with heap := s3.heap.push { cls := .type "slice", data := .fields #[vl, vu, .none] } }
  exact tail_any (ops := [.ref s3.heap.objs.size, v]) ht hT hg (by with_unfolding_all rfl)
def cutV (xs : List V) (lo hi : Option Int) : List V := (xs.drop (HT.sIx xs.length 0 lo)).take (HT.sIx xs.length xs.length hi - HT.sIx xs.length 0 lo)
theorem cutV_length (xs : List V) (lo hi : Option Int) : (cutV xs lo hi).length ≤ xs.length := by
  unfold cutV
  rw [List.length_take, List.length_drop]
  omega
end
end L2
namespace L2
open PySem PySem.Spec PyProof.Rows
def ixN (n : Nat) (i : Int) : Option Nat := if 0 ≤ i then (if i < n then some i.toNat else none) else if -(n : Int) ≤ i then some (i + n).toNat else none
def atI {α : Type} (xs : List α) (i : Int) : Option α := (ixN xs.length i).bind fun j => xs[j]?
theorem ixN_seq {n : Nat} {i : Int} {j : Nat} (h : ixN n i = some j) : seqIndex? i n = some j ∧ j < n ∧ -(n : Int) ≤ i ∧ i < n := by
  unfold ixN at h
  by_cases h0 : 0 ≤ i
  · rw [if_pos h0] at h
    by_cases h1 : i < n
    · rw [if_pos h1] at h
      have e : i.toNat = j := Option.some.inj h
      exact ⟨by rw [seqIndex_of h0 h1, e], by omega, by omega, h1⟩
    · rw [if_neg h1] at h; cases h
  · rw [if_neg h0] at h
    by_cases h1 : -(n : Int) ≤ i
    · rw [if_pos h1] at h
      have e : (i + n).toNat = j := Option.some.inj h
      exact ⟨by rw [seqIndex_neg (by omega) h1, e], by omega, h1, by omega⟩
    · rw [if_neg h1] at h; cases h
theorem atI_get {α : Type} {xs : List α} {i : Int} {v : α} (h : atI xs i = some v) : ∃ j, seqIndex? i xs.length = some j ∧ xs[j]? = some v ∧ j < xs.length ∧ -(xs.length : Int) ≤ i ∧ i < xs.length := by
  unfold atI at h
  cases e : ixN xs.length i with
  | none => rw [e] at h; cases h
  | some j =>
    rw [e] at h
    obtain ⟨h1, h2, h3, h4⟩ := ixN_seq e
    exact ⟨j, h1, h, h2, h3, h4⟩
theorem atI_nat {α : Type} {xs : List α} {j : Nat} {v : α} (h : xs[j]? = some v) : atI xs (j : Int) = some v := by
  have hj : j < xs.length := (List.getElem?_eq_some_iff.mp h).1
  have e : ixN xs.length (j : Int) = some j := by
    unfold ixN
    rw [if_pos (by omega), if_pos (by omega)]; simp
  unfold atI; rw [e]; exact h
def PlainIx (b : Expr) : Prop := ∀ o i, subscripted b false o i = operate [o, i] (getItem o i)
def IxR (X : Cx) (r : R2) : Prop :=
  ∀ (value slice : Expr) (pins : List (Addr × Obj)) (s : Shared) (σ : St) (H : Hp) (x y : V) (v u : Value) (Q : VK), Inv X pins σ H s → RelV x v → RelV y u → r x y H Q →
    subscripted slice false v u = operate [v, u] (getItem v u) → wpAny (model X.prog X.w) X.A (subscriptTail value slice v u) (EP X pins σ Q) X.xe s
def MtR (X : Cx) (id : String) (r : V → List V → Hp → VK → Prop) : Prop :=
  ∀ (pins : List (Addr × Obj)) (s : Shared) (σ : St) (H : Hp) (x : V) (xs : List V) (v : Value) (us : List Value) (Q : VK), Inv X pins σ H s → RelV x v → Vals xs us → r x xs H Q →
    wpAny (model X.prog X.w) X.A (call (.builtin id) (v :: us)) (EP X pins σ Q) X.xe s
section
variable {X : Cx} {a b : Expr} {ta tb : TE} {pos : Pos}
theorem pe_ix {r : R2} (hr : IxR X r) (ha : PE X a ta) (hb : PE X b tb) (hs : PlainIx b) : PE X (.Subscript a b pos) (tOp r ta tb) := by
  intro pins s σ H Q I h
  exact Subscript_ (binT ha hb I h fun v u s2 x y H2 I2 rx ry q => hr a b pins s2 σ H2 x y v u Q I2 rx ry q (hs _ _))
def rIxL (K : PySem.W.Frag) : R2 := fun x y H Q => ∃ p xs i v, x = .ref p ∧ y = .int i ∧ SqL K H p xs ∧ atI xs i = some v ∧ Q v H
def rIxS : R2 := fun x y H Q => ∃ z i c, x = .str z ∧ y = .int i ∧ z.length ≤ sizeLine ∧ atI z.cps.toList i = some c ∧ Q (.str ⟨#[c]⟩) H
theorem ix_list : IxR X (rIxL X.K) := by
  intro value slice pins s σ H x y v u Q I rx ry h hs
  obtain ⟨p, xs, i, z, rfl, rfl, hq, he, q⟩ := h
  cases rx
  obtain ⟨t, rfl⟩ := ry
  obtain ⟨its, r, pl, hz⟩ := I.list hq
  obtain ⟨j, h1, h2, h3, h4, h5⟩ := atI_get he
  obtain ⟨w, ew, rw'⟩ := r.get h2
  have hl := r.length
  have hn := line63
  have fin : EP X pins σ Q w s := ⟨z, H, I, rw', q⟩
  by_cases h0 : 0 ≤ i
  · have hj : i.toNat = j := by
      rw [seqIndex_of h0 h5] at h1
      exact Option.some.inj h1
    exact item_listR pl.isList h0 (by omega) (by rw [hj]; simpa using ew) fin hs
  · have hj : (i + (its.toArray.size : Int)).toNat = j := by
      rw [seqIndex_neg (by omega) h4] at h1
      rw [List.size_toArray, ← hl]
      exact Option.some.inj h1
    exact subscriptTail_builtinR (x := w) pl.isList.typeIs slot_list_getitem.lookup
      (wpAny_getItem_list_neg (Q := fun r s' => r = w ∧ EP X pins σ Q r s') pl.isList (by omega) (by rw [List.size_toArray] <;> omega) (by omega) (by rw [hj]; simpa using ew) ⟨rfl, fin⟩) hs
theorem ix_str : IxR X rIxS := by
  intro value slice pins s σ H x y v u Q I rx ry h hs
  obtain ⟨z, i, c, rfl, rfl, hz, he, q⟩ := h
  obtain ⟨t, rfl⟩ := rx
  obtain ⟨t', rfl⟩ := ry
  obtain ⟨j, h1, h2, h3, h4, h5⟩ := atI_get he
  have hl : z.cps.toList.length = z.length := by simp [Str.length]
  rw [hl] at h1 h4 h5
  have hn := line63
  exact tail_any (typeIs_str s z t) slot_str_getitem.lookup (getItem_str (c := c) (by
    have e1 : decide (i < -(2 ^ 63 : Int)) = false := decide_eq_false (by omega)
    have e2 : decide (i ≥ 2 ^ 63) = false := decide_eq_false (by omega)
    rw [e1, e2, Bool.or_false]) (by rw [h1]; simpa using h2) ⟨.str ⟨#[c]⟩, H, I.tok _, ⟨_, rfl⟩, q⟩) hs
theorem mapSeq_set (its : List Value) (n j : Nat) (u : Value) : Obj.mapSeq (·.setIfInBounds j u) { cls := .type "list", data := .seq its.toArray n } = { cls := .type "list", data := .seq (its.set j u).toArray n } := by
  simp [Obj.mapSeq]
theorem Inv.lst {pins : List (Addr × Obj)} {σ : St} {H : Hp} {s : Shared} {p : Addr} {xs : List V} (I : Inv X pins σ H s) (h : H p = some (.lst xs)) :
    ∃ (its : List Value) (n : Nat), Vals xs its ∧ s.heap.get? p = some { cls := .type "list", data := .seq its.toArray n } ∧ xs.length ≤ sizeLine := by
  obtain ⟨z, its, n, r, e⟩ := I.hok p _ h
  exact ⟨its, n, r, e, z⟩
theorem Inv.lstUpd {pins : List (Addr × Obj)} {σ : St} {H : Hp} {s : Shared} {p : Addr} {xs ys : List V} {its its' : List Value} {n n' : Nat} {f : Obj → Obj} (I : Inv X pins σ H s) (h : H p = some (.lst xs))
    (ho : s.heap.get? p = some { cls := .type "list", data := .seq its.toArray n }) (hf : f { cls := .type "list", data := .seq its.toArray n } = { cls := .type "list", data := .seq its'.toArray n' }) (r : Vals ys its') (hz : ys.length ≤ sizeLine) (t : Nat) :
    Inv X pins σ (upd H p (.lst ys)) { s with heap := s.heap.update p f, toks := t } := by
  have e : (s.heap.update p f).get? p = some { cls := .type "list", data := .seq its'.toArray n' } := by
    rw [Heap.get?_update_self f ho (by rw [hf] <;> rfl), hf]
  refine I.write (x := p) (e := p) (by rw [h]; trivial) (.inl rfl) (fun b u hb q => (Heap.get?_update_other _ _ (Ne.symm hb)).trans q) ⟨_, e⟩ ?_
  exact ⟨hz, its', n', r, e⟩
def rSetL : V → V → V → Hp → (Hp → Prop) → Prop := fun o i v H Q => ∃ p xs k j, o = .ref p ∧ i = .int k ∧ H p = some (.lst xs) ∧ ixN xs.length k = some j ∧ Q (upd H p (.lst (xs.set j v)))
theorem set_list : PSet X rSetL := by
  intro pins s σ H o i v ov iv u Q I ro ri rv h
  obtain ⟨p, xs, k, j, rfl, rfl, hp, hj, q⟩ := h
  cases ro
  obtain ⟨t, rfl⟩ := ri
  obtain ⟨its, n, r, ho, hz⟩ := I.lst hp
  obtain ⟨h1, h2, h3, h4⟩ := ixN_seq hj
  have hl := r.length
  have hn := line63
  have I' : Inv X pins σ (upd H p (.lst (xs.set j v))) { s with heap := s.heap.update p (Obj.mapSeq (·.setIfInBounds j u)) } :=
    I.lstUpd hp ho (mapSeq_set its n j u) (r.set rv j) (by rw [List.length_set]; exact hz) s.toks
  by_cases h0 : 0 ≤ k
  · have hk : k.toNat = j := by
      rw [seqIndex_of h0 h4] at h1
      exact Option.some.inj h1
    exact PySem.W.ki_setAt ho h0 (by omega) (by rw [List.size_toArray, ← hl]; exact h4) (by rw [hk]; exact ⟨_, I', q⟩)
  · have hk : (k + (its.toArray.size : Int)).toNat = j := by
      rw [seqIndex_neg (by omega) h3] at h1
      rw [List.size_toArray, ← hl]
      exact Option.some.inj h1
    exact PySem.W.ki_setBack ho (by omega) (by rw [List.size_toArray, ← hl]; exact h3) (by omega) (by rw [hk]; exact ⟨_, I', q⟩)
theorem slice_bounds (lo hi : Option Int) (n : Nat) : (sliceBounds lo hi none n).1 = ((HT.sIx n 0 lo : Nat) : Int) ∧ (sliceBounds lo hi none n).2.1 = ((HT.sIx n n hi : Nat) : Int) ∧ (sliceBounds lo hi none n).2.2 = 1 := by
  refine ⟨?_, ?_, rfl⟩
  · cases lo with
    | none => simp [sliceBounds, HT.sIx]
    | some i =>
      simp only [sliceBounds, HT.sIx, Option.getD_none, show (1 : Int) > 0 by decide, if_true]
      by_cases h : i < 0
      · simp only [h, if_true] <;> omega
      · simp only [h, if_false] <;> omega
  · cases hi with
    | none => simp [sliceBounds, HT.sIx]
    | some i =>
      simp only [sliceBounds, HT.sIx, Option.getD_none, show (1 : Int) > 0 by decide, if_true]
      by_cases h : i < 0
      · simp only [h, if_true] <;> omega
      · simp only [h, if_false] <;> omega
theorem slicePick_cut (its : List Value) (lo hi : Option Int) : slicePick its.toArray lo hi none = ((its.drop (HT.sIx its.length 0 lo)).take (HT.sIx its.length its.length hi - HT.sIx its.length 0 lo)).toArray := by
  obtain ⟨h1, h2, h3⟩ := slice_bounds lo hi its.toArray.size
  unfold slicePick
  rw [h1, h2, h3]
  simp only [sliceRange_one, pick_run, List.size_toArray] <;> rfl
def rSlL (K : PySem.W.Frag) : V → Option Int → Option Int → Hp → VK → Prop := fun x lo hi H Q => ∃ a xs, x = .ref a ∧ SqL K H a xs ∧ ∀ p, H p = none → Q (.ref p) (upd H p (.lst (cutV xs lo hi)))
theorem sl_list : SlR X (rSlL X.K) := by
  intro pins s σ H x v vl vu lo hi sl Q I rx hs pl pu h
  obtain ⟨a, xs, rfl, hx, q⟩ := h
  cases rx
  obtain ⟨its, r, ht, hz⟩ := I.list hx
  have hlen := r.length
  refine ⟨"list", _, slot_list_getitem.lookup, ht.isList.typeIs, ?_⟩
  refine wpAny_getItem_list_slice ht.isList hs pl pu .none (by simp) ?_ (by rw [List.size_toArray] <;> omega)
  rw [slicePick_cut, ← hlen]
  refine ⟨.ref s.heap.objs.size, _, I.laid (t' := s.toks) (o := .lst (cutV xs lo hi)) (fun b ob q => Heap.get?_push_of_some _ q) (Nat.le_refl _) ?_, rfl, q _ (I.hok.fresh (Nat.le_refl _))⟩
  exact ⟨Nat.le_trans (cutV_length xs lo hi) hz, _, 0, (r.drop (HT.sIx xs.length 0 lo)).take (HT.sIx xs.length xs.length hi - HT.sIx xs.length 0 lo), Heap.get?_push_size _ rfl⟩
def flatV : V → Bool
  | .non => true
  | .bl _ => true
  | .int _ => true
  | .str _ => true
  | _ => false
def eqV : V → V → Bool
  | .non, .non => true
  | .bl a, .bl b => a == b
  | .bl a, .int b => (if a then 1 else 0) == b
  | .int a, .bl b => a == (if b then 1 else 0)
  | .int a, .int b => a == b
  | .str a, .str b => a == b
  | _, _ => false
theorem eqAt_V {A : Around} {s : Shared} {y x : V} {u v : Value} (ry : RelV y u) (rx : RelV x v) (fy : flatV y = true) (fx : flatV x = true) : SeqAt.EqAt A s u v (eqV y x) := by
  cases y with
  | non =>
    cases ry
    cases x with
    | non => cases rx; exact SeqAt.EqAt.same _
    | bl b => cases rx; exact SeqAt.EqAt.none_bool b
    | int b => obtain ⟨t, rfl⟩ := rx; exact SeqAt.EqAt.none_int b t
    | str b => obtain ⟨t, rfl⟩ := rx; exact SeqAt.EqAt.none_str b t
    | _ => exact absurd (show false = true from fx) Bool.false_ne_true
  | bl a =>
    cases ry
    cases x with
    | non => cases rx; exact SeqAt.EqAt.bool_none a
    | bl b => cases rx; exact SeqAt.EqAt.bool_bool a b
    | int b => obtain ⟨t, rfl⟩ := rx; exact SeqAt.EqAt.bool_int a b t
    | str b => obtain ⟨t, rfl⟩ := rx; exact SeqAt.EqAt.bool_str a b t
    | _ => exact absurd (show false = true from fx) Bool.false_ne_true
  | int a =>
    obtain ⟨t', rfl⟩ := ry
    cases x with
    | non => cases rx; exact SeqAt.EqAt.int_none a t'
    | bl b => cases rx; exact SeqAt.EqAt.int_bool a t' b
    | int b => obtain ⟨t, rfl⟩ := rx; exact SeqAt.EqAt.int_int a t' b t
    | str b => obtain ⟨t, rfl⟩ := rx; exact SeqAt.EqAt.int_str a t' b t
    | _ => exact absurd (show false = true from fx) Bool.false_ne_true
  | str a =>
    obtain ⟨t', rfl⟩ := ry
    cases x with
    | non => cases rx; exact SeqAt.EqAt.str_none a t'
    | bl b => cases rx; exact SeqAt.EqAt.str_bool a t' b
    | int b => obtain ⟨t, rfl⟩ := rx; exact SeqAt.EqAt.str_int a t' b t
    | str b => obtain ⟨t, rfl⟩ := rx; exact SeqAt.EqAt.str_str a t' b t
    | _ => exact absurd (show false = true from fx) Bool.false_ne_true
  | _ => exact absurd (show false = true from fy) Bool.false_ne_true
theorem call_len_seq : CallR X (.builtin "len") (fun xs H Q => ∃ p ys, xs = [.ref p] ∧ (SqL X.K H p ys ∨ SqT X.K H p ys) ∧ Q (.int ys.length) H) := by
  intro pins s σ H xs us Q I r h
  obtain ⟨p, ys, rfl, hq, q⟩ := h
  obtain ⟨u, rfl, rx⟩ := vals1 r
  cases rx
  have hn := line63
  rcases hq with hq | hq
  · obtain ⟨its, r', pl, hz⟩ := I.list hq
    have hlen := r'.length
    exact Calls.call_len_list pl.isList (by simp only [List.size_toArray] <;> omega) ⟨.int ys.length, H, I.tok _, ⟨s.toks + 1, by rw [List.size_toArray, hlen]⟩, q⟩
  · obtain ⟨its, r', pl, hz⟩ := I.tuple hq
    have hlen := r'.length
    exact len_tuple pl (by simp only [List.size_toArray] <;> omega) ⟨.int ys.length, H, I.tok _, ⟨s.toks + 1, by rw [List.size_toArray, hlen]⟩, q⟩
theorem call_len_str : CallR X (.builtin "len") (fun xs H Q => ∃ z, xs = [.str z] ∧ z.length ≤ sizeLine ∧ Q (.int z.length) H) := by
  intro pins s σ H xs us Q I r h
  obtain ⟨z, rfl, hz, q⟩ := h
  obtain ⟨u, rfl, t, rfl⟩ := vals1 r
  have hn := line63
  exact len_str (by omega) ⟨.int z.length, H, I.tok _, ⟨_, rfl⟩, q⟩
theorem call_list_of : CallR X (.type "list") (fun xs H Q => ∃ p ys, xs = [.ref p] ∧ (SqL X.K H p ys ∨ SqT X.K H p ys) ∧ ∀ l, H l = none → Q (.ref l) (upd H l (.lst ys))) := by
  intro pins s σ H xs us Q I r h
  obtain ⟨p, ys, rfl, hq, q⟩ := h
  obtain ⟨u, rfl, rx⟩ := vals1 r
  cases rx
  have fin : ∀ (its : List Value), Vals ys its → ys.length ≤ sizeLine → ∀ (h' : Heap) (c' : Nat), (∀ b o', s.heap.get? b = some o' → h'.get? b = some o') →
      h'.get? s.heap.objs.size = some { cls := .type "list", dict := none, data := .seq its.toArray c', slots := #[] } → EP X pins σ Q (.ref s.heap.objs.size) { s with heap := h' } := fun its r' hz h' c' kp e =>
    ⟨.ref s.heap.objs.size, _, I.laid (t' := s.toks) kp (Nat.le_refl _) (show ObjOk X.prog X.w _ h' _ (.lst ys) from ⟨hz, its, c', r', e⟩), rfl, q _ (I.hok.fresh (Nat.le_refl _))⟩
  rcases hq with hq | hq
  · obtain ⟨its, r', pl, hz⟩ := I.list hq
    have hlen := r'.length
    obtain ⟨o, ho, hc, n, hd⟩ := pl.isList
    exact call_list_seq p (.inl rfl) ho hc hd (fun h' c' kp e => fin its r' hz h' c' kp e) (by simp only [List.size_toArray] <;> omega)
  · obtain ⟨its, r', pl, hz⟩ := I.tuple hq
    have hlen := r'.length
    obtain ⟨o, ho, hc, n, hd⟩ := pl
    exact call_list_seq p (.inr rfl) ho hc hd (fun h' c' kp e => fin its r' hz h' c' kp e) (by simp only [List.size_toArray] <;> omega)
def tyV (K : PySem.W.Frag) (T : String) (x : V) (H : Hp) : Prop := match x with
  | .str _ => T = "str"
  | .int _ => T = "int"
  | .ref p => (T = "list" ∧ ∃ xs, SqL K H p xs) ∨ (T = "tuple" ∧ ∃ o, K.lookup p = some o ∧ o.cls = .type "tuple" ∧ o.dict = none) ∨
      (T = "dict" ∧ ((∃ kvs, H p = some (.dK kvs)) ∨ ∃ kvs, H p = some (.dT kvs))) ∨ (T = "set" ∧ ∃ S n, H p = some (.set S n))
  | _ => False
theorem tyV_is {pins : List (Addr × Obj)} {σ : St} {H : Hp} {s : Shared} {T : String} {x : V} {v : Value} (I : Inv X pins σ H s) (r : RelV x v) (ty : tyV X.K T x H) :
    s.TypeIs v T ∧ ∀ a, v = .ref a → ∃ ob, s.heap.get? a = some ob ∧ ob.dict = none := by
  cases x with
  | str z =>
    obtain ⟨t, rfl⟩ := r
    cases (show T = "str" from ty)
    exact ⟨typeIs_str s z t, fun _ e => nomatch e⟩
  | int i =>
    obtain ⟨t, rfl⟩ := r
    cases (show T = "int" from ty)
    exact ⟨typeIs_int s i t, fun _ e => nomatch e⟩
  | ref p =>
    cases r
    rcases ty with ⟨rfl, xs, hq⟩ | ⟨rfl, o, hk, hc, hd⟩ | ⟨rfl, hk⟩ | ⟨rfl, S, n, hk⟩
    · obtain ⟨its, _, pl, _⟩ := I.list hq
      refine ⟨pl.isList.typeIs, fun a e => ?_⟩
      cases e
      obtain ⟨o, n, e, c, hd, _⟩ := pl
      exact ⟨o, e, hd⟩
    · refine ⟨⟨o, I.kIn p o hk, hc⟩, fun a e => ?_⟩
      cases e
      exact ⟨o, I.kIn _ o hk, hd⟩
    · have z : ∃ o, s.heap.get? p = some o ∧ o.ExactDict := by
        rcases hk with ⟨kvs, hk⟩ | ⟨kvs, hk⟩
        · obtain ⟨_, _, _, _, o, _, _, e, ex, _⟩ := I.hok p _ hk
          exact ⟨o, e, ex⟩
        · obtain ⟨_, _, _, _, o, _, _, e, ex, _⟩ := I.hok p _ hk
          exact ⟨o, e, ex⟩
      obtain ⟨o, e, ex⟩ := z
      refine ⟨⟨o, e, ex.1⟩, fun a e2 => ?_⟩
      cases e2
      exact ⟨o, e, ex.2.1⟩
    · obtain ⟨o, _, _, _, e, ex, _⟩ := I.hok p _ hk
      refine ⟨⟨o, e, ex.1⟩, fun a e2 => ?_⟩
      cases e2
      exact ⟨o, e, ex.2.1⟩
  | _ => exact False.elim ty
def tBM (K : PySem.W.Frag) (T : String) (r : V → List V → Hp → VK → Prop) (to : TE) (t : TA) : TE := fun σ H Q => to σ H fun x H1 => tyV K T x H1 ∧ t σ H1 fun xs H2 => r x xs H2 Q
variable {o e : Expr} {es : List Expr} {to : TE} {t : TA} {name : Str} {apos cpos : Pos} {T id : String} {r : V → List V → Hp → VK → Prop}
theorem pe_bm (pa : PlainAttrs T) (slot : Slot T name id) (hty : typeOf (.builtin id) = pure (.type "method_descriptor")) (hm : MtR X id r) (ho : PE X o to) (ha : PA X (e :: es) t)
    (hbase : attributeBase o name X.env (eval o X.env) = eval o X.env := by rfl)
    (hfew : ((backTo cpos (starEach (e :: es) X.env)).all (fun x => !x.1) && (backToKw cpos (keywordEach [] X.env)).all (fun x => x.1.isSome)
      && decide ((e :: es).length + ([] : List Keyword).length + (if ([] : List Keyword).isEmpty then 0 else 1) < 30)) = true := by rfl)
    (hline : (apos.endLine == cpos.line) = true := by rfl) (hs : starEach (e :: es) X.env = (false, eval e X.env) :: starEach es X.env := by rfl) (hplain : (backTo cpos (starEach es X.env)).any (·.1) = false := by rfl) :
    PE X (.Call (.Attribute o name apos) (e :: es) [] cpos) (tBM X.K T r to t) := by
  intro pins s σ H Q I h
  refine wpAny_Call_method_late hbase hfew hline rfl (thn (ho pins s σ H _ I h) fun v s1 ⟨x, H1, I1, r1, ty, q1⟩ => ?_)
  obtain ⟨h1, h2⟩ := tyV_is I1 r1 ty
  refine ⟨T, id, pa, slot, hty, h1, h2, ?_⟩
  have hA := ha cpos pins s1 σ H1 _ I1 q1
  rw [hs] at hA ⊢
  refine Calls.callWith_builtin (by show (false || (backTo cpos (starEach es X.env)).any (·.1)) = false; rw [hplain] <;> rfl) (Calls.evalArgs_plain ?_)
  exact thn hA fun us s2 ⟨vs, H2, I2, r2, q2⟩ => hm pins s2 σ H2 x vs v us Q I2 r1 r2 q2
/- xs.append(e), list.index on a module's tuple .. are MtR facts of 06m -/
end
end L2
namespace L2
open PySem PySem.Spec PyProof.Rows
def MtM (X : Cx) (id : String) (r : V → List V → Hp → VK → Prop) : Prop :=
  ∀ (pins : List (Addr × Obj)) (s : Shared) (σ : St) (H : Hp) (x : V) (xs : List V) (v : Value) (us : List Value) (Q : VK), Inv X pins σ H s → RelV x v → Vals xs us → r x xs H Q →
    wpAny (model X.prog X.w) X.A (call (.builtin id) (v :: us)) (EP X pins σ Q) X.xe s
theorem Vals.one : ∀ {x : V} {us : List Value}, Vals [x] us → ∃ u, us = [u] ∧ RelV x u
  | _, _, .cons r .nil => ⟨_, rfl, r⟩
theorem Vals.two : ∀ {x y : V} {us : List Value}, Vals [x, y] us → ∃ u v, us = [u, v] ∧ RelV x u ∧ RelV y v
  | _, _, _, .cons r (.cons q .nil) => ⟨_, _, rfl, r, q⟩
theorem Vals.rep {xs : List V} {us : List Value} (h : Vals xs us) : ∀ k : Nat, Vals (List.replicate k xs).flatten (List.replicate k us).flatten
  | 0 => .nil
  | k + 1 => by
    rw [List.replicate_succ, List.replicate_succ, List.flatten_cons, List.flatten_cons]
    exact Vals.append h (Vals.rep h k)
theorem foldl_rep (its : List Value) : ∀ (k : Nat) (acc : List Value),
    List.foldl (fun x1 x2 => x1 ++ x2) acc.toArray (List.replicate k its.toArray) = (acc ++ (List.replicate k its).flatten).toArray
  | 0, acc => by simp
  | k + 1, acc => by
    have e : acc.toArray ++ its.toArray = (acc ++ its).toArray := by simp
    have e2 : (acc ++ its) ++ (List.replicate k its).flatten = acc ++ (List.replicate (k + 1) its).flatten := by
      rw [List.replicate_succ, List.flatten_cons, List.append_assoc]
    rw [← e2, ← foldl_rep its k (acc ++ its), ← e, List.replicate_succ, List.foldl_cons]
section
variable {X : Cx} {pins : List (Addr × Obj)} {σ : St} {H : Hp} {s : Shared} {l b : Addr} {xs ys zs : List V}
theorem Inv.lset {its its' : List Value} {n : Nat} {f : Array Value → Array Value} {t' : Nat} (I : Inv X pins σ H s) (hH : H l = some (.lst xs))
    (e : s.heap.get? l = some { cls := .type "list", data := .seq its.toArray n }) (hf : f its.toArray = its'.toArray) (hv : Vals ys its') (hz : ys.length ≤ sizeLine) :
    Inv X pins σ (upd H l (.lst ys)) { s with heap := s.heap.update l (Obj.mapSeq f), toks := t' } := by
  have q := PySem.IsL.update e f
  rw [hf] at q
  refine I.write (x := l) (e := l) (by rw [hH]; exact trivial) (.inl rfl) (fun b' u hb hu => (Heap.get?_update_other s.heap (Obj.mapSeq f) (Ne.symm hb)).trans hu) ⟨_, q⟩ ?_
  exact ⟨hz, its', _, hv, q⟩
theorem Inv.lnew {its : List Value} {t' : Nat} (I : Inv X pins σ H s) (hv : Vals ys its) (hz : ys.length ≤ sizeLine) :
    Inv X pins σ (upd H s.heap.objs.size (.lst ys)) { s with heap := s.heap.push { cls := .type "list", data := .seq its.toArray }, toks := t' } :=
  I.laid (fun _ _ q => Heap.get?_push_of_some _ q) (Nat.le_refl _) ⟨hz, its, 0, hv, Heap.get?_push_size _ rfl⟩
theorem Inv.fresh (I : Inv X pins σ H s) : H s.heap.objs.size = none := I.hok.fresh (Nat.le_refl _)
theorem Inv.lstM (I : Inv X pins σ H s) (hH : H l = some (.lst xs)) : xs.length ≤ sizeLine ∧ ∃ (its : List Value) (n : Nat), Vals xs its ∧ xs.length = its.length ∧ s.heap.get? l = some { cls := .type "list", data := .seq its.toArray n } := by
  obtain ⟨z, its, n, r, e⟩ := I.hok l _ hH
  exact ⟨z, its, n, r, r.length, e⟩
theorem notLongL {n : Nat} (h : n ≤ sizeLine) : Builtin.List.listTooLong n = false := by
  unfold Builtin.List.listTooLong
  exact decide_eq_false (by omega)
end
section
variable {X : Cx}
def rAppend : V → List V → Hp → VK → Prop := fun x vs H Q => ∃ l xs y, x = .ref l ∧ vs = [y] ∧ H l = some (.lst xs) ∧ xs.length < sizeLine ∧ Q .non (upd H l (.lst (xs ++ [y])))
theorem mt_append : MtM X "list.append" rAppend := by
  intro pins s σ H x vs v us Q I rx rv h
  obtain ⟨l, xs, y, rfl, rfl, hH, hz, q⟩ := h
  cases rx
  obtain ⟨u, rfl, ru⟩ := rv.one
  obtain ⟨z, its, n, r, hl, e⟩ := I.lstM hH
  refine call_meets F.slot_list_append ⟨_, e, rfl⟩ F.entry_list_append (F.args_list_append_2 _ _) (PySem.list_append l its.toArray n u (by rw [List.size_toArray]; omega)) ⟨e, ?_⟩
  refine ⟨.non, _, I.lset (its' := its ++ [u]) hH e (by simp) (r.append (.cons ru .nil)) ?_, rfl, q⟩
  rw [List.length_append, List.length_singleton]
  omega
def rCat : R2 := fun x y H Q => ∃ l b xs zs, x = .ref l ∧ y = .ref b ∧ H l = some (.lst xs) ∧ H b = some (.lst zs) ∧ xs.length + zs.length ≤ sizeLine ∧ ∀ p, H p = none → Q (.ref p) (upd H p (.lst (xs ++ zs)))
theorem op_cat : OpR X (binaryOp .Add) rCat := by
  intro pins s σ H x y v u Q I rx ry h
  obtain ⟨l, b, xs, zs, rfl, rfl, hH, hB, hz, q⟩ := h
  cases rx
  cases ry
  obtain ⟨z, its, n, r, hl, e⟩ := I.lstM hH
  obtain ⟨z2, its2, n2, r2, hl2, e2⟩ := I.lstM hB
  refine PySem.P.add_list e e2 ?_ (by rw [List.size_toArray, List.size_toArray]; omega)
  have ea : its.toArray ++ its2.toArray = (its ++ its2).toArray := by simp
  rw [ea]
  exact ⟨.ref _, _, I.lnew (t' := s.toks) (r.append r2) (by rw [List.length_append]; omega), rfl, q _ I.fresh⟩
def rRep : R2 := fun x y H Q => ∃ l k xs, x = .ref l ∧ y = .int k ∧ H l = some (.lst xs) ∧ -(2 ^ 63) ≤ k ∧ k < 2 ^ 63 ∧ xs.length * k.toNat ≤ sizeLine ∧
  ∀ p, H p = none → Q (.ref p) (upd H p (.lst (List.replicate k.toNat xs).flatten))
theorem len_rep {α : Type} (xs : List α) (k : Nat) : (List.replicate k xs).flatten.length = k * xs.length := by
  induction k with
  | zero => simp
  | succ k ih => rw [List.replicate_succ, List.flatten_cons, List.length_append, ih, Nat.succ_mul, Nat.add_comm]
theorem op_rep : OpR X (binaryOp .Mult) rRep := by
  intro pins s σ H x y v u Q I rx ry h
  obtain ⟨l, k, xs, rfl, rfl, hH, h1, h2, hz, q⟩ := h
  cases rx
  obtain ⟨t, rfl⟩ := ry
  obtain ⟨z, its, n, r, hl, e⟩ := I.lstM hH
  have hlen : its.toArray.size * k.toNat ≤ sizeLine := by rw [List.size_toArray, ← hl]; exact hz
  have hcap : ¬ its.toArray.size * k.toNat > (2 ^ 63 - 1) / 8 := by
    have : (sizeLine : Nat) ≤ (2 ^ 63 - 1) / 8 := by decide
    omega
  have hfit : ¬ (!Builtin.List.listFitsIndex k) = true := by
    rw [fitsIndex_both h1 h2]
    exact Bool.false_ne_true
  have hlong : ¬ Builtin.List.listTooLong (its.toArray.size * k.toNat) = true := by
    rw [notLongL hlen]
    exact Bool.false_ne_true
  have hnew : List.foldl (fun x1 x2 => x1 ++ x2) #[] (List.replicate (if its.toArray.isEmpty = true then 0 else k.toNat) its.toArray) = (List.replicate k.toNat its).flatten.toArray := by
    have f0 : ∀ m : Nat, List.foldl (fun x1 x2 => x1 ++ x2) #[] (List.replicate m its.toArray) = (List.replicate m its).flatten.toArray := fun m => by
      have := foldl_rep its m []
      rw [List.nil_append] at this
      exact this
    rw [f0]
    cases its with
    | nil => simp
    | cons a r' => rw [if_neg (by simp)]
  refine wpAny_binaryOp_repeat_ref (T := "list") (U := "int") (by decide) ⟨_, e, rfl⟩ (fun s' => typeIs_int s' k t) noFill_list_mul F.fills_int_mul F.slot_int_rmul repeat_list F.slot_int_index.lookup
    (call_meets F.slot_int_rmul (typeIs_int s k t) F.entry_int_rmul (F.args_int_rmul_2 _ _) (int___rmul___int_list k t l its.toArray n)
      ⟨e, rfl, ⟨_, e, rfl⟩, call_meets F.slot_list_mul ⟨_, e, rfl⟩ F.entry_list_mul (F.args_list_mul_2 _ _) (AutoListH.list___mul___list_int_3 l its.toArray n k t hfit hcap hlong) ⟨e, ?_⟩⟩)
  rw [hnew]
  exact ⟨.ref _, _, I.lnew (t' := s.toks) (r.rep k.toNat) (by rw [len_rep, Nat.mul_comm]; exact hz), rfl, q _ I.fresh⟩
end
section
variable {prog : Program} {w : World} {A : Around} {E : Value → Shared → Prop} {s : Shared}
end
section
variable {X : Cx}
end
end L2
namespace Att
open PySem PySem.W PySem.Calls PyProof.Rows
theorem ints_of_wellAll {P : Params} {h : Heap} : ∀ (ns : List Int) (vs : List Value), WellAll P h vs (ns.map WData.int) → IntsAre vs ns := by
  intro ns
  induction ns with
  | nil =>
    intro vs w
    rw [List.map_nil] at w
    cases w
    exact .nil
  | cons n ns ih =>
    intro vs w
    rw [List.map_cons] at w
    cases w with
    | cons a b =>
      cases a
      exact .cons _ _ (ih _ b)
theorem script_of {l : OpenLaw} {n : Nat} (hn : l.most = some n) {P : Params} {h : Heap} {args : List WData} {vals : List Value}
    (hpre : l.row.toRowW.claim.pre args = true) (hwl : WellAll P h vals args) :
    ∃ a vs ns, vals = [Value.ref a] ∧ args = [WData.list (ns.map WData.int)] ∧ h.get? a = some { cls := .type "list", data := .seq vs.toArray } ∧ IntsAre vs ns ∧ ns.length ≤ n := by
  have hsh : WShape.hasAll [] args [.list .int] = true := (pre_splitW hpre).1
  have hc : l.pre.holds [] { args := args } = true := (pre_splitW hpre).2
  obtain ⟨d, r, rfl, h1, h2⟩ := hasAllW_cons hsh
  obtain rfl := hasAllW_nil h2
  obtain ⟨xs, rfl, h3⟩ := hasW_list h1
  obtain ⟨ns, rfl⟩ := items_int h3
  have hlen : ns.length ≤ n := by
    unfold OpenLaw.pre at hc
    have h4 : (WTm.not (.lt (.lit (.int (n : Int))) (.len (.arg 0)))).holds [] { args := [.list (ns.map .int)] } = true := by
      have h4 := (holds_andW hc).1
      rw [hn] at h4
      exact h4
    have h5 := condW_of h4 (w_not (w_lt w_lit (w_len_list (w_arg rfl))))
    rw [List.length_map] at h5
    refine Nat.le_of_not_lt fun q => ?_
    have q' : (n : Int) < ((ns.length : Nat) : Int) := by omega
    first
      | (rw [decide_eq_true q'] at h5; exact absurd h5 (by decide))
      | (simp at h5; omega)
  cases hwl with
  | cons w1 w2 =>
    cases w2
    cases w1 with
    | list ho hall => exact ⟨_, _, ns, rfl, rfl, ho, ints_of_wellAll ns _ hall, hlen⟩
theorem post_true (l : OpenLaw) (args : List WData) : l.row.toRowW.claim.post args (.bool true) args = true :=
  postW_of (r := l.row.toRowW) (X := (true == true))
    (show WShape.has [] (.bool true) .bool = true by first | rfl | decide | simp [WShape.has, WShape.arms, WShape.armsAll])
    (show (WTm.eq .res (.lit (.bool true))).value [] { args := args, res := some (.bool true), after := args } = some (.bool (true == true)) from w_eq_bool (w_res rfl) w_lit) rfl
theorem attach_call {l : OpenLaw} {n : Nat} {q : Program} {loose : List Str} {XP : (Str → Option Value) → Heap → Prop} {YP : World → Heap → Prop} {d : DefRec}
    (hn : l.most = some n) (hdf : d.params.defaults = [])
    (call : ∀ (w : World) (s₀ s₁ : Shared) (mg mb : Str → Option Value) (fa : Addr) (o : Obj) (pm cd doc : Value) (a : Addr) (vs : List Value) (ns : List Int),
      Ground q loose [] XP w s₀ mg mb s₁.heap → YP w s₁.heap →
      s₁.heap.get? fa = some o → o.data = .func (docDef d.name d.params d.body d.scope pm cd doc) → s₁.heap.CodeRec cd d.name → mg d.name = some (.ref fa) →
      s₁.heap.get? a = some { cls := .type "list", data := .seq vs.toArray } → IntsAre vs ns → ns.length ≤ n → s₁.gens = #[] →
      codeAny (model l.prog w) callerA (.call (.ref fa) ⟨[.ref a], []⟩) (fun r s' => r = .ok (.ret (.bool true)) ∧ OldK s₁.heap s'.heap ∧ s'.os = s₁.os ∧ AllBare s'.gens) s₁) :
    WalkO q loose XP YP l.row.toRowW d [] (fun f vs => PySem.call f vs) := by
  intro w s₀ s₁ mg mb G Y fa o pm cd doc dV kV ho hd hcd hD hmg hg args vals as hpre hlay hrd hwl hlo
  obtain rfl : dV = .none := Dflts.none hD hdf
  obtain rfl : kV = .none := Dflts.noKw hD
  obtain ⟨a, vs, ns, rfl, rfl, hobj, hints, hlen⟩ := script_of hn hpre hwl
  refine enter_call (codeAny_mono (call w s₀ s₁ mg mb fa o pm cd doc a vs ns G Y ho (fd_plain hd) hcd hmg hobj hints hlen hg) fun r s' hq => ?_)
  obtain ⟨rfl, h2, h3, h4⟩ := hq
  exact ⟨.inl ⟨.bool true, .bool true, [], rfl, fun _ => rfl, .bool true, post_true l _, fun _ => ⟨List.Pairwise.nil, fun _ hm => (nomatch hm)⟩⟩, h2, h3, h4⟩
section
variable {prog : Program} {w : World} {A : Around} {E : Value → Shared → Prop} {s : Shared} {K : Frag}
end
end Att
namespace L2
open PySem PySem.Spec PyProof.Rows
theorem vals_ints : ∀ {vs : List Value} {ns : List Int}, IntsAre vs ns → Vals (ns.map V.int) vs
  | _, _, .nil => .nil
  | _, _, .cons n t h => .cons ⟨t, rfl⟩ (vals_ints h)
def Only (H : Hp) : Prop := ∀ b, H b = none ∨ ∃ o xs, H b = some (.frz o (.lst xs))
theorem law_call {P : Program} {w : World} {K : PySem.W.Frag} {mg mb : Str → Option Value} {CX : CXT} {k : Nat} {fa a : Addr} {fd : FuncData} {x : Str} {sp : Sp} {s₁ : Shared} {vs : List Value} {ns : List Int}
    (KX : K.In s₁.heap) (hns : s₁.heap.Ns mainGlobals mg) (hb : s₁.heap.Ns builtinsNs mb) (hbb : ∀ x : Str, x ≠ "__name__" → mb x = bootBuiltins x) (hlim : s₁.heap.NoLimit) (hg : s₁.gens = #[])
    (ha : s₁.heap.get? a = some { cls := .type "list", data := .seq vs.toArray }) (hi : IntsAre vs ns) (hl : ns.length ≤ sizeLine) (hr : Room k callerA)
    (F : ∀ base : Heap, K.In base → base.Ns mainGlobals mg → FnOk P w K mg base CX k fa fd [x] sp) (hbind : ∀ (s : Shared) (u : Value), BindsTo s fd ⟨[u], []⟩ [(x, u)])
    (hsp : ∀ H : Hp, Only H → SqL K H a (ns.map V.int) → sp [.ref a] H (fun v _ => v = .bl true) fun _ _ _ => False)
    (hCX : ∀ H e s', CX [] H s₁ (fun _ _ _ => False) e s' → False) :
    codeAny (model P w) callerA (.call (.ref fa) ⟨[.ref a], []⟩) (fun r s' => r = .ok (.ret (.bool true)) ∧ OldK s₁.heap s'.heap ∧ s'.os = s₁.os ∧ AllBare s'.gens) s₁ := by
  have rv := vals_ints hi
  have lenV := hi.length
  have core : ∀ H : Hp, Only H → SqL K H a (ns.map V.int) → HOk P w H s₁.heap → (∀ b, H b ≠ none → b = a) → (H a ≠ none → K.lookup a = none) →
      codeAny (model P w) callerA (.call (.ref fa) ⟨[.ref a], []⟩) (fun r s' => r = .ok (.ret (.bool true)) ∧ OldK s₁.heap s'.heap ∧ s'.os = s₁.os ∧ AllBare s'.gens) s₁ := by
    intro H hO hS hok hA hK
    have base_of : ∀ {b : Addr} {o : Obj}, s₁.heap.get? b = some o → H b = none → (hidT s₁.heap H).get? b = some o := fun e n => hidT_get e n
    have noA : ∀ {b : Addr} {o : Obj} {es : Array DictEntry} {ep : Nat}, s₁.heap.get? b = some o → o.data = .dict es ep → H b = none := fun {b o es ep} e d => by
      cases q : H b with
      | none => rfl
      | some u =>
        have e' : b = a := hA b (by rw [q]; simp)
        subst e'
        rw [ha] at e; cases e
        have d' : Data.seq vs.toArray _ = Data.dict es ep := d
        cases d'
    have nsK : ∀ {b : Addr} {m : Str → Option Value}, s₁.heap.Ns b m → (hidT s₁.heap H).Ns b m := fun {b m} ⟨o, es, ep, e, d, r⟩ => ⟨o, es, ep, base_of e (noA e d), d, r⟩
    have hKb : K.In (hidT s₁.heap H) := fun b o e => base_of (KX b o e) (by
      cases q : H b with
      | none => rfl
      | some u =>
        have e' : b = a := hA b (by rw [q]; simp)
        subst e'
        rw [hK (by rw [q]; simp)] at e; cases e)
    have hM : Mod K mg (hidT s₁.heap H) := ⟨hKb, nsK hns, ⟨mb, nsK hb, hbb⟩, let ⟨mc, h1, h2⟩ := hlim; ⟨mc, nsK h1, h2⟩⟩
    have e0 : Env0 P w K mg (hidT s₁.heap H) callerA [] s₁ H := ⟨rfl, hM, fun b o e => of_hidT e, Nat.le_of_eq (hidT_size _ _), trivial, fun b hb => absurd (show b ∈ ([] : List Addr) from hb) (by simp), hok, .of_eq hg⟩
    refine codeAny_mono ((F _ hKb (nsK hns)).run callerA [] s₁ H ⟨[.ref a], []⟩ [.ref a] [.ref a] _ _ hr e0 (hbind s₁ (.ref a)) (.cons rfl .nil) (hsp H hO hS)) fun r s' h => ?_
    cases r with
    | error e => exact (hCX H e s' h).elim
    | ok fl =>
      cases fl with
      | next => exact False.elim h
      | brk => exact False.elim h
      | cont => exact False.elim h
      | ret u =>
        obtain ⟨v, H', os, bare, un, hok', r', q⟩ := h
        have q' : v = .bl true := q
        subst q'
        obtain rfl : u = Value.bool true := r'
        refine ⟨rfl, OldK.of_keep fun b o e => ?_, os, bare⟩
        cases q : H b with
        | none => exact un.keep b o e q (by intro z; exact absurd (show b ∈ ([] : List Addr) from z) (by simp)) (by simp)
        | some u =>
          rcases hO b with z | ⟨ob, xs, z⟩
          · rw [q] at z; cases z
          · have z2 := un.frzs b ob _ z
            obtain ⟨e1, _⟩ := hok b _ z
            obtain ⟨e2, _⟩ := hok' b _ z2
            rw [e] at e1; cases e1
            exact e2
  cases hk : K.lookup a with
  | some o =>
    have e := KX a o hk
    rw [ha] at e
    cases e
    refine core (fun _ => none) (fun _ => .inl rfl) (.inr ⟨_, vs.toArray, _, hk, rfl, rfl, rfl, by rw [List.size_toArray, lenV]; exact hl, by simpa using rv⟩) (fun b u z => by have z' : (none : Option HO) = some u := z; cases z') (fun b z => absurd rfl z) fun z => absurd rfl z
  | none =>
    refine core (fun b => if b = a then some (.frz { cls := .type "list", data := .seq vs.toArray } (.lst (ns.map V.int))) else none) (fun b => ?_) (.inl (.inr ⟨{ cls := .type "list", data := .seq vs.toArray }, if_pos rfl⟩)) (fun b u z => ?_) (fun b z => ?_) fun _ => hk
    · by_cases hb : b = a
      · exact .inr ⟨_, _, if_pos hb⟩
      · exact .inl (if_neg hb)
    · by_cases hb : b = a
      · have z' := (if_pos hb).symm.trans z
        cases z'
        subst hb
        exact ⟨ha, by rw [List.length_map]; exact hl, vs, _, rv, ha⟩
      · have z' := (if_neg hb).symm.trans z
        cases z'
    · by_cases hb : b = a
      · exact hb
      · exact absurd (if_neg hb) z
end L2
namespace L2
open PySem PySem.Spec PyProof.Rows
theorem walk_of {l : PySem.W.OpenLaw} {n k : Nat} {q : Program} {loose : List Str} {XP : (Str → Option Value) → Heap → Prop} {YP : World → Heap → Prop} {d : DefRec} {K : Params → PySem.W.Frag} {CX : World → CXT} {sp : World → Sp} {x : Str}
    (hn : l.most = some n) (hn2 : n ≤ sizeLine) (hdf : d.params.defaults = []) (hr : Room k callerA)
    (hY : ∀ (w : World) (h : Heap), YP w h → (K w.params).In h)
    (F : ∀ (w : World) (mg : Str → Option Value) (fa : Addr) (h : Heap), (K w.params).In h → h.Ns mainGlobals mg → mg d.name = some (.ref fa) →
      ∃ fd : FuncData, (∀ (s : Shared) (u : Value), BindsTo s fd ⟨[u], []⟩ [(x, u)]) ∧
        ∀ base : Heap, (K w.params).In base → base.Ns mainGlobals mg → FnOk l.prog w (K w.params) mg base (CX w) k fa fd [x] (sp w))
    (hsp : ∀ (w : World) (H : Hp) (a : Addr) (ns : List Int), ns.length ≤ n → Only H → SqL (K w.params) H a (ns.map V.int) → sp w [.ref a] H (fun v _ => v = .bl true) fun _ _ _ => False)
    (hCX : ∀ (w : World) (H : Hp) (s : Shared) (e : Value) (s' : Shared), CX w [] H s (fun _ _ _ => False) e s' → False) :
    PySem.W.WalkO q loose XP YP l.row.toRowW d [] (fun f vs => PySem.call f vs) := by
  refine Att.attach_call hn hdf fun w s₀ s₁ mg mb fa o pm cd doc a vs ns G Y ho hd hcd hmg hobj hints hlen hg => ?_
  have KX := hY w _ Y
  obtain ⟨fd, hb, hF⟩ := F w mg fa _ KX G.T.g hmg
  exact law_call KX G.T.g G.T.b G.T.builtins G.T.nolimit hg hobj hints (Nat.le_trans hlen hn2) hr hF hb (fun H hO hS => hsp w H a ns hlen hO hS) fun H e s' => hCX w H s₁ e s'
end L2
/- THE LAST THEOREM (shape; LID, My.* are yours):
   My.Adr: a structure of the addresses that your layer names (classes, functions); My.Txt K t: a structure (Prop) of the equations over K;
   My.txt_mk : {K} {implicit addresses ..} (e1 : nsIn K mainGlobals "law" = some (some (.ref f))) (e2 : K.lookup f = some ⟨oc, od, .func (fnOf "law" "law" params body scope dV kV doc pm an cdv ct), sl⟩) (e3 : codeIn K cdv "law" = true) .. : ∃ t, My.Txt K t
set_option maxRecDepth 100000 in
set_option maxHeartbeats 0 in
theorem PySem.Challenge.cw_LID_holds : PySem.Challenge.rw_LID.Holds := by
  w_on; o_law; k_head; (case hw => w_witness2)
  k_fill
  refine L2.walk_of (l := PySem.Challenge.rw_LID) (n := 63) (k := 40) (x := "script") (CX := fun w => ..) (sp := fun _ => My.sp_law) rfl (by decide) rfl ⟨rfl, by decide, by decide⟩ (fun w h Y => PySem.W.kIn_of Y) ?F ?S ?C
  case F =>
    intro w mg fa h KX G hmg
    have T : ∃ t, My.Txt (L2.KOf KX) t := by
      dsimp only [L2.KOf]                          -- K must stand as «<heap const> w.params» for k_is
      refine' My.txt_mk ?e1 ?e2 ?e3 ..
      (case e1 => PySem.W.k_is)                    -- in the order: a name -> its address -> its object -> its parts
      (case e2 => PySem.W.k_is)
      ..
    obtain ⟨t, T⟩ := T
    have e0 := hmg.symm.trans (PySem.W.mg_of KX G T.law)
    cases e0                                       -- fa is the law's own address
    exact ⟨_, fun s u => .of_eq rfl, fun base kb nb => My.law_fn T kb nb⟩     -- if «.of_eq rfl» comes too early: refine' ⟨_, ?b, fun base kb nb => My.law_fn T kb nb⟩; exact fun s u => .of_eq rfl
  case S => exact fun w H a ns hl hO hS => ..
  case C => exact ..
(the tactic k_is has no namespace: write k_is) -/
namespace L2
open PySem PySem.Spec PyProof.Rows
def inClass (s : Stmt) (j : Nat) : Stmt := match s with
  | .ClassDef _ _ _ body _ _ _ _ _ _ _ => body.getD j (.Pass ⟨0, 0, 0, 0⟩)
  | _ => .Pass ⟨0, 0, 0, 0⟩
def defArgs (s : Stmt) : Arguments := match s with
  | .FunctionDef _ a _ _ _ _ _ _ _ _ => a
  | _ => { posonlyargs := [], args := [], vararg := none, kwonlyargs := [], kw_defaults := [], kwarg := none, defaults := [] }
def defBody (s : Stmt) : List Stmt := match s with
  | .FunctionDef _ _ b _ _ _ _ _ _ _ => b
  | _ => []
def defScope (s : Stmt) : Scope := match s with
  | .FunctionDef _ _ _ _ _ _ sc _ _ _ => sc
  | _ => { kind := .function, names := [], isGenerator := false, isCoroutine := false }
abbrev CX0 : CXT := fun _ _ _ _ _ _ => False
abbrev E0 : XK := fun _ _ _ => False
theorem pass0 {X : Cx} : Passes CX0 X E0 := fun _ _ _ _ _ _ _ h => h.elim
structure Fun (K : PySem.W.Frag) (x qual : Str) (st : Stmt) (f : Addr) (fd : FuncData) : Prop where
  ex : ∃ (oc : Value) (od : Option Addr) (kV doc pm : Value) (an : Option Addr) (cdv ct : Value) (osl : Array (Option Value)),
    fd = PySem.W.fnOf x qual (defArgs st) (defBody st) (defScope st) .none kV doc pm an cdv ct ∧ K.lookup f = some ⟨oc, od, .func fd, osl⟩ ∧ PySem.W.codeIn K cdv qual = true
  kp : PySem.W.keepIn K (.ref f) = true
section
variable {P : Program} {w : World} {K : PySem.W.Frag} {mg : Str → Option Value} {base : Heap}
theorem Fun.ok {x qual : Str} {st : Stmt} {f : Addr} {fd : FuncData} {N ps : List Str} {k : Nat} {sp : Sp} (F : Fun K x qual st f fd) (S : FnScope N ps (defScope st)) (len : ∀ vs H Q E, sp vs H Q E → vs.length = ps.length)
    (hbody : ∀ (cdv : Value) (A : Around) (outer : List Env) (s : Shared) (H : Hp) (vs : List V) (Q : VK) (E : XK), Room k (A.deeper (envOfC qual (defScope st) s.heap.objs.size f cdv)) → sp vs H Q E →
      ∃ t, PSs (cxOf CX0 P w K mg base N qual (defScope st) f cdv A outer s H E).nox (defBody st) t ∧ t { nx := fun _ H' => Q .non H', rt := Q } (start N vs) H) : FnOk P w K mg base CX0 (k + 1) f fd ps sp := by
  obtain ⟨oc, od, kV, doc, pm, an, cdv, ct, osl, rfl, lk, hcd⟩ := F.ex
  refine fn_of lk hcd S len fun A outer s H vs Q E hr hsp => ?_
  obtain ⟨t, h, q⟩ := hbody cdv A outer s H vs Q E hr hsp
  exact ⟨t, h.nox, q⟩
theorem Fun.binds {x qual : Str} {st : Stmt} {f : Addr} {fd : FuncData} {ps : List Str} (F : Fun K x qual st f fd)
    (h : ∀ (kV doc pm : Value) (an : Option Addr) (cdv ct : Value) (us : List Value), us.length = ps.length → bindArgs (PySem.W.fnOf x qual (defArgs st) (defBody st) (defScope st) .none kV doc pm an cdv ct) ⟨us, []⟩ = pure (ps.zip us)) : Binds K fd ps [] := by
  obtain ⟨oc, od, kV, doc, pm, an, cdv, ct, osl, rfl, lk, hcd⟩ := F.ex
  exact .all (h kV doc pm an cdv ct)
theorem fun_mk {x qual : Str} {st : Stmt} {f : Addr} {oc : Value} {od an : Option Addr} {osl : Array (Option Value)} {kV doc pm cdv ct : Value} (l : K.lookup f = some ⟨oc, od, .func (PySem.W.fnOf x qual (defArgs st) (defBody st) (defScope st) .none kV doc pm an cdv ct), osl⟩)
    (c : PySem.W.codeIn K cdv qual = true) (k : PySem.W.keepIn K (.ref f) = true) : Fun K x qual st f (PySem.W.fnOf x qual (defArgs st) (defBody st) (defScope st) .none kV doc pm an cdv ct) := ⟨⟨oc, od, kV, doc, pm, an, cdv, ct, osl, rfl, l, c⟩, k⟩
end
theorem small1000 {n : Nat} (h : n ≤ 1000) : n < sizeLine := Nat.lt_of_le_of_lt h (by decide)
section
variable {X : Cx}
theorem pv (i : Nat) {x : Str} {pos : Pos} (hN : X.N[i]? = some x := by rfl) (hv : Vis X.env.scope x := by first | exact Or.inl rfl | exact Or.inr (Or.inl rfl) | exact Or.inr (Or.inr rfl)) (hd : (x == ("__debug__" : Str)) = false := by decide)
    (hcd : (x == ("__classdict__" : Str)) = false := by decide) : PE X (.Name x pos) (tVar i) := pe_var hN hv hd hcd
end
theorem iteF {A B : Prop} (h : B) : if false = true then A else B := by
  rw [if_neg Bool.false_ne_true]
  exact h
theorem iteT {A B : Prop} (h : A) : if true = true then A else B := by
  rw [if_pos rfl]
  exact h
theorem ite2 {c A B : Prop} [Decidable c] (h1 : c → A) (h2 : ¬ c → B) : if c then A else B := by
  by_cases h : c
  · rw [if_pos h]
    exact h1 h
  · rw [if_neg h]
    exact h2 h
def Same (H H' : Hp) : Prop := ∀ b o, H b = some o → H' b = some o
theorem Same.refl (H : Hp) : Same H H := fun _ _ h => h
theorem Same.trans {H H1 H2 : Hp} (a : Same H H1) (b : Same H1 H2) : Same H H2 := fun c o h => b c o (a c o h)
theorem Same.free {H H' : Hp} (e : Same H H') {l : Addr} (h : H' l = Option.none) : H l = Option.none := by
  cases q : H l with
  | none => rfl
  | some o =>
    rw [e l o q] at h
    cases h
theorem Same.seq {K : PySem.W.Frag} {H H' : Hp} {a : Addr} {xs : List V} (e : Same H H') (h : SqL K H a xs) : SqL K H' a xs := by
  rcases h with (h | ⟨o, h⟩) | h
  · exact .inl (.inl (e _ _ h))
  · exact .inl (.inr ⟨o, e _ _ h⟩)
  · exact .inr h
end L2
set_option Elab.async false
set_option linter.all false
set_option maxRecDepth 100000
set_option maxHeartbeats 4000000
namespace L2
open PySem PySem.Spec PyProof.Rows
section
variable {κ : Type} [DecidableEq κ]
end
section
variable {P : Program} {w : World} {H : Hp} {h : Heap} {a : Addr}
end
section
variable {X : Cx} {pins : List (Addr × Obj)} {σ : St} {H : Hp} {s : Shared} {a : Addr} {y v : V} {u r : Value} {o : Option V} {A : Around} {E : Value → Shared → Prop}
end
section
variable {X : Cx} {pins : List (Addr × Obj)} {σ : St} {H : Hp} {s : Shared} {a : Addr} {kvs : List (Key × V)} {k : Key} {u : Value} {A : Around} {E : Value → Shared → Prop}
end
section
variable {X : Cx} {o i e value : Expr} {pos pos' tpos : Pos} {td ty tv : TE}
end
section
variable {X : Cx} {pos : Pos}
end
section
variable {X : Cx} {pins : List (Addr × Obj)} {σ : St} {H : Hp} {s : Shared} {a : Addr} {y d : V} {u r : Value} {o : Option V} {A : Around} {E : Value → Shared → Prop}
end
section
variable {X : Cx} {o e f : Expr} {apos cpos : Pos} {td ty tx : TE}
end
section
variable {X : Cx} {pins : List (Addr × Obj)} {σ : St} {H : Hp} {s : Shared} {a : Addr} {kvs : List (Key × V)} {A : Around} {E : Value → Shared → Prop}
end
section
variable {X : Cx} {pins : List (Addr × Obj)} {σ : St} {H : Hp} {s : Shared} {a : Addr} {y : V} {u : Value} {A : Around} {E : Value → Shared → Prop}
end
end L2
namespace L2
section
variable {κ : Type} [DecidableEq κ]
end
end L2
set_option Elab.async false
set_option linter.all false
set_option maxRecDepth 100000
set_option maxHeartbeats 4000000
namespace L2
open PySem PySem.Spec PyProof.Rows
theorem closure_go {env : Env} (f : Str × NameKind → List (Str × Addr) → Sem (ForInStep (List (Str × Addr))))
    (hf : ∀ n k r, f (n, k) r = if (k == NameKind.free) = true then (cellOf env n >>= fun a => pure (.yield ((n, a) :: r))) else pure (.yield r)) :
    ∀ (l : List (Str × NameKind)) (acc : List (Str × Addr)), (∀ x ∈ l, x.2 = .free → ∃ c, env.cells.lookup x.1 = some c) → (∀ y c, acc.lookup y = some c → env.cells.lookup y = some c) →
      ∃ cl, (forIn l acc f : Sem (List (Str × Addr))) = pure cl ∧ (∀ y c, cl.lookup y = some c → env.cells.lookup y = some c) ∧ (∀ y, (∃ c, acc.lookup y = some c) → ∃ c, cl.lookup y = some c) ∧ ∀ y, (y, NameKind.free) ∈ l → ∃ c, cl.lookup y = some c
  | [], acc, _, ha => ⟨acc, by rw [List.forIn_nil], ha, fun _ h => h, fun _ h => by cases h⟩
  | (n, k) :: r, acc, h, ha => by
    rw [List.forIn_cons, hf]
    have hr : ∀ x ∈ r, x.2 = .free → ∃ c, env.cells.lookup x.1 = some c := fun x hx => h x (List.mem_cons_of_mem _ hx)
    by_cases hk : k = .free
    · subst hk
      obtain ⟨c, hc⟩ := h (n, .free) List.mem_cons_self rfl
      have hcell : cellOf env n = pure c := by unfold cellOf; rw [hc]
      have look : ∀ y, ((n, c) :: acc).lookup y = if (y == n) = true then some c else acc.lookup y := fun y => by
        rw [List.lookup_cons]; cases y == n <;> rfl
      obtain ⟨cl, e, r1, r2, r3⟩ := closure_go f hf r ((n, c) :: acc) hr (fun y c' q => by
        rw [look] at q
        split at q
        · rename_i hy
          have e := eq_of_beq hy
          subst e
          rw [← q]; exact hc
        · exact ha y c' q)
      rw [if_pos (by rfl), hcell]
      refine ⟨cl, e, r1, fun y ⟨c', q⟩ => r2 y ?_, fun y hy => ?_⟩
      · rw [look]
        split
        · exact ⟨_, rfl⟩
        · exact ⟨_, q⟩
      · rcases List.mem_cons.mp hy with q | q
        · injection q with q1 _
          exact r2 y ⟨c, by rw [look, q1, if_pos (by simp)]⟩
        · exact r3 y q
    · have hb : (k == NameKind.free) = false := by simpa using hk
      obtain ⟨cl, e, r1, r2, r3⟩ := closure_go f hf r acc hr ha
      rw [if_neg (by rw [hb]; decide)]
      refine ⟨cl, e, r1, r2, fun y hy => ?_⟩
      rcases List.mem_cons.mp hy with q | q
      · injection q with _ q2
        exact absurd q2.symm hk
      · exact r3 y q
theorem closureFor_ok {scope : Scope} {env : Env} (h : ∀ x ∈ scope.names, x.2 = .free → ∃ c, env.cells.lookup x.1 = some c) :
    ∃ cl, closureFor scope env = pure cl ∧ (∀ y c, cl.lookup y = some c → env.cells.lookup y = some c) ∧ ∀ y, (y, NameKind.free) ∈ scope.names → ∃ c, cl.lookup y = some c := by
  have g := closure_go (env := env) (fun x r => match x with | (name, kind) => if (kind == NameKind.free) = true then (do let a ← cellOf env name; pure (ForInStep.yield ((name, a) :: r))) else pure (ForInStep.yield r)) (fun _ _ _ => rfl) scope.names [] h (fun _ _ q => by cases q)
  obtain ⟨cl, e, r1, _, r3⟩ := g
  refine ⟨cl, ?_, r1, r3⟩
  have e2 : closureFor scope env = (forIn scope.names ([] : List (Str × Addr)) (fun x r => match x with | (name, kind) => if (kind == NameKind.free) = true then (do let a ← cellOf env name; pure (ForInStep.yield ((name, a) :: r))) else pure (ForInStep.yield r)) >>= fun r => pure r) := rfl
  rw [e2, e]
  rfl
def compOk (N : List Str) (sc scope : Scope) (N' : List Str) (ix : List (Option Nat)) : Bool :=
  (scope.names.all fun p => decide (p.2 ≠ .cell) && (decide (p.2 ≠ .local) || decide (scope.names.lookup p.1 = some .local)) && (decide (p.2 ≠ .free) || (decide (sc.names.lookup p.1 = some .cell) && decide (scope.names.lookup p.1 = some .free)))) &&
  decide N'.Nodup && decide (ix.length = N'.length) &&
  ((List.range ix.length).all fun j => match ix[j]? with
    | some (some i) => (match N'[j]? with | some y => decide (N[i]? = some y) && (scope.names.any fun p => decide (p.1 = y) && decide (p.2 = .free)) | none => false)
    | _ => true)
structure CompSc (N : List Str) (sc scope : Scope) (N' : List Str) (ix : List (Option Nat)) : Prop where
  kind : scope.kind = .function
  nocell : ∀ y ∈ scope.names, y.2 ≠ .cell
  names : ∀ y ∈ scope.names, y.2 = .local → scope.names.lookup y.1 = some .local
  nd : N'.Nodup
  len : ix.length = N'.length
  cap : ∀ (j i : Nat), ix[j]? = some (some i) → ∃ y, N'[j]? = some y ∧ N[i]? = some y ∧ (y, NameKind.free) ∈ scope.names
  free : ∀ y, (y, NameKind.free) ∈ scope.names → sc.names.lookup y = some .cell
  frees : ∀ y, (y, NameKind.free) ∈ scope.names → scope.names.lookup y = some .free
theorem CompSc.of {N : List Str} {sc scope : Scope} {N' : List Str} {ix : List (Option Nat)} (kind : scope.kind = .function) (h : compOk N sc scope N' ix = true) : CompSc N sc scope N' ix := by
  unfold compOk at h
  simp only [Bool.and_eq_true, List.all_eq_true, Bool.or_eq_true, decide_eq_true_eq] at h
  obtain ⟨⟨⟨h1, h2⟩, h3⟩, h4⟩ := h
  refine ⟨kind, fun y hy => (h1 y hy).1.1, fun y hy hl => ?_, h2, h3, fun j i e => ?_, fun y hy => ?_, fun y hy => ?_⟩
  · rcases (h1 y hy).1.2 with z | z
    · exact absurd hl z
    · exact z
  · have hj : j < ix.length := (List.getElem?_eq_some_iff.mp e).1
    have q := h4 j (List.mem_range.mpr hj)
    rw [e] at q
    dsimp only at q
    cases e2 : N'[j]? with
    | none => rw [e2] at q; cases q
    | some y =>
      rw [e2] at q
      simp only [Bool.and_eq_true, decide_eq_true_eq, List.any_eq_true] at q
      obtain ⟨q1, ⟨n, k⟩, q2, q3, q4⟩ := q
      dsimp only at q3 q4
      subst q3 q4
      exact ⟨_, rfl, q1, q2⟩
  · rcases (h1 _ hy).2 with z | z
    · exact absurd rfl z
    · exact z.1
  · rcases (h1 _ hy).2 with z | z
    · exact absurd rfl z
    · exact z.2
def inSt (ix : List (Option Nat)) (σ : St) : St := ix.map fun o => o.bind fun i => (σ[i]?).join
theorem inSt_get {ix : List (Option Nat)} {σ : St} {j : Nat} {v : V} (h : (inSt ix σ)[j]? = some (some v)) : ∃ i, ix[j]? = some (some i) ∧ σ[i]? = some (some v) := by
  unfold inSt at h
  rw [List.getElem?_map] at h
  cases e : ix[j]? with
  | none => rw [e] at h; cases h
  | some o =>
    rw [e] at h
    cases o with
    | none => cases h
    | some i =>
      refine ⟨i, rfl, ?_⟩
      have h' : (σ[i]?).join = some v := Option.some.inj h
      cases e2 : σ[i]? with
      | none => rw [e2] at h'; cases h'
      | some o2 => rw [e2] at h'; exact congrArg some h'
def cxIn (X : Cx) (scope : Scope) (N' : List Str) (C : Addr) (cl : List (Str × Addr)) (s : Shared) (H : Hp) (fp : List Addr) : Cx where
  prog := X.prog
  w := X.w
  K := X.K
  mg := X.mg
  base := X.base
  A := X.A
  N := N'
  s₀ := s
  H₀ := H
  env := compEnvC scope cl C X.env
  outer := X.stack
  stack := X.stack
  ex := fp
  fn := fun _ => false
  calm := X.calm
  mild := X.mild
  pn := []
  xe := fun x s' => notedBy (model X.prog X.w) X.A (compEnvC scope cl C X.env) (fun x s'' => compPost (model X.prog X.w) X.A X.xe none (fun _ _ => False) .none C (.error x) s'') x s'
theorem lookup_relabel {env : Env} : ∀ {names : List (Str × NameKind)} {x : Str} {k : NameKind}, (∀ y ∈ names, y.2 ≠ .cell) →
    (names.map fun (n, k) => if (k == NameKind.free && env.scope.kind == .function && env.kindOf n == some .cell) then (n, NameKind.cell) else (n, k)).lookup x = some k → k = .cell ∨ k = .free → (x, NameKind.free) ∈ names
  | [], _, _, _, h, _ => by simp at h
  | (n, k') :: r, x, k, hc, h, hk => by
    have ih := @lookup_relabel env r x k fun y hy => hc y (List.mem_cons_of_mem _ hy)
    change List.lookup x ((if (k' == NameKind.free && env.scope.kind == .function && env.kindOf n == some .cell) = true then (n, NameKind.cell) else (n, k')) :: _) = _ at h
    by_cases hx : x = n
    · subst hx
      by_cases hq : (k' == NameKind.free && env.scope.kind == .function && env.kindOf x == some .cell) = true
      · have hf : k' = .free := by
          simp only [Bool.and_eq_true] at hq
          exact eq_of_beq hq.1.1
        subst hf
        exact List.mem_cons_self
      · rw [if_neg hq] at h
        simp only [List.lookup_cons, beq_self_eq_true] at h
        have e : k' = k := Option.some.inj h
        subst e
        rcases hk with z | z
        · exact absurd z (hc (x, k') List.mem_cons_self)
        · subst z; exact List.mem_cons_self
    · have hb : (x == n) = false := beq_eq_false_iff_ne.mpr hx
      refine List.mem_cons_of_mem _ (ih ?_ hk)
      by_cases hq : (k' == NameKind.free && env.scope.kind == .function && env.kindOf n == some .cell) = true
      · rw [if_pos hq] at h
        simp only [List.lookup_cons, hb] at h
        exact h
      · rw [if_neg hq] at h
        simp only [List.lookup_cons, hb] at h
        exact h
theorem lookup_relabel_free {env : Env} : ∀ {names : List (Str × NameKind)} {x : Str}, names.lookup x = some .free →
    (names.map fun (n, k) => if (k == NameKind.free && env.scope.kind == .function && env.kindOf n == some .cell) then (n, NameKind.cell) else (n, k)).lookup x = some .cell ∨
    (names.map fun (n, k) => if (k == NameKind.free && env.scope.kind == .function && env.kindOf n == some .cell) then (n, NameKind.cell) else (n, k)).lookup x = some .free
  | [], _, h => by simp at h
  | (n, k') :: r, x, h => by
    have ih := @lookup_relabel_free env r x
    show List.lookup x ((if (k' == NameKind.free && env.scope.kind == .function && env.kindOf n == some .cell) = true then (n, NameKind.cell) else (n, k')) :: _) = _ ∨ List.lookup x ((if (k' == NameKind.free && env.scope.kind == .function && env.kindOf n == some .cell) = true then (n, NameKind.cell) else (n, k')) :: _) = _
    by_cases hx : x = n
    · subst hx
      simp only [List.lookup_cons, beq_self_eq_true] at h
      cases h
      by_cases hq : (NameKind.free == NameKind.free && env.scope.kind == .function && env.kindOf x == some .cell) = true
      · rw [if_pos hq]; left; simp [List.lookup_cons]
      · rw [if_neg hq]; right; simp [List.lookup_cons]
    · have hb : (x == n) = false := beq_eq_false_iff_ne.mpr hx
      simp only [List.lookup_cons, hb] at h
      by_cases hq : (k' == NameKind.free && env.scope.kind == .function && env.kindOf n == some .cell) = true
      · rw [if_pos hq]; simp only [List.lookup_cons, hb]; exact ih h
      · rw [if_neg hq]; simp only [List.lookup_cons, hb]; exact ih h
section
variable {X : Cx} {pins : List (Addr × Obj)} {σ : St} {H H' : Hp} {s : Shared}
theorem Inv.adopt {a : Addr} {o : HO} (I : Inv X pins σ H s) (hn : H a = none) (h1 : X.s₀.heap.objs.size ≤ a) (hL : a ≠ X.env.locals) (hC : ∀ x c, X.env.cells.lookup x = some c → c ≠ a) (hp : ∀ p ∈ X.pn ++ pins, p.1 ≠ a)
    (new : ObjOk X.prog X.w (upd H a o) s.heap a o) : Inv X pins σ (upd H a o) s := by
  have u : ∀ b ob, X.s₀.heap.get? b = some ob → b ≠ a := fun b ob e => Nat.ne_of_lt (Nat.lt_of_lt_of_le (Heap.lt_size e) h1)
  refine ⟨I.ok, I.os, I.bare, ⟨I.base.keep, I.base.slot, fun b ob e n hx => by rw [upd_ne (u b ob e)]; exact I.base.free b ob e n hx, I.base.there, fun b xs e => ?_, fun b ob xs e => ?_, fun b ps e => ?_⟩, I.loc, I.cell, ?_, fun x c e => ?_, fun p hq => ?_, fun b ob e => ?_, I.len⟩
  · have q := I.base.tups b xs e
    rw [upd_ne (ne_of_none q hn)]; exact q
  · have q := I.base.frzs b ob xs e
    rw [upd_ne (ne_of_none q hn)]; exact q
  · obtain ⟨more, q⟩ := I.base.tbls b ps e
    exact ⟨more, by rw [upd_ne (ne_of_none q hn)]; exact q⟩
  · rw [upd_ne (Ne.symm hL)]; exact I.free
  · rw [upd_ne (hC x c e)]; exact I.freeC x c e
  · obtain ⟨e, n, r⟩ := I.pin p hq
    exact ⟨e, by rw [upd_ne (hp p hq)]; exact n, r⟩
  · by_cases hb : b = a
    · subst hb
      rw [upd_same] at e
      cases e
      exact new
    · rw [upd_ne hb] at e
      exact (I.hok b ob e).stay (fun _ _ _ q => q) (fun c q => by rw [upd_ne (ne_of_none q hn)]; exact q) fun c xs q => by rw [upd_ne (ne_of_none q hn)]; exact q
structure Loose (X : Cx) (pins : List (Addr × Obj)) (H : Hp) (C : Addr) : Prop where
  no : H C = none
  nl : C ≠ X.env.locals
  ab : X.s₀.heap.objs.size ≤ C
  nc : ∀ x c, X.env.cells.lookup x = some c → c ≠ C
  np : ∀ p ∈ X.pn ++ pins, p.1 ≠ C
theorem Inv.loose {C : Addr} (I : Inv X pins σ H s) (hC : s.heap.objs.size ≤ C) (hn : H' C = none) : Loose X pins H' C :=
  let ⟨a, b, _, d, e, f⟩ := I.fpOk (H' := H') hC hn
  ⟨a, b, Nat.le_trans I.sz hC, e, f⟩
theorem Inv.same {C : Addr} {h' : Heap} {s' : Shared} (I : Inv X pins σ H s) (l : Loose X pins H C) (sb : Heap.SameBut C s.heap h') (e : s' = { s with heap := h' }) : Inv X pins σ H s' := by
  subst e
  exact I.turned (t' := s.toks) (fun b o hb q => (sb.2 b hb).trans q) l.no (l.nl) (.inr l.ab) l.nc l.np
theorem Inv.cxIn_ok {scope : Scope} {N' : List Str} {ix : List (Option Nat)} {C : Addr} {cl : List (Str × Addr)} {fp : List Addr} (I : Inv X pins σ H s) (S : CompSc X.N X.env.scope scope N' ix) (hC : s.heap.objs.size ≤ C)
    (c1 : ∀ y c, cl.lookup y = some c → X.env.cells.lookup y = some c) (c2 : ∀ y, (y, NameKind.free) ∈ scope.names → ∃ c, cl.lookup y = some c)
    (hf : ∀ b ∈ fp, FpOk X pins H b) (hlt : ∀ b ∈ fp, b < s.heap.objs.size) : (cxIn X scope N' C cl s H fp).Ok where
  mod := I.ok.mod
  kind := S.kind
  glob := I.ok.glob
  blt := I.ok.blt
  above := hC
  inj := fun x y c h1 h2 => I.ok.inj x y c (c1 x c h1) (c1 y c h2)
  has := fun x h => by
    rcases h with h | h
    · exact c2 x (lookup_relabel S.nocell h (.inl rfl))
    · exact c2 x (lookup_relabel S.nocell h (.inr rfl))
  cab := fun _ _ h => by cases h
  hd := I.ok.hd
  hm := fun h => I.hnd h
  frames := I.ok.frames
  stk := .inl rfl
  exf := fun b hb => ⟨Nat.ne_of_lt (Nat.lt_of_lt_of_le (hlt b hb) hC), fun x c e => (hf b hb).2.2.2.2.1 x c (c1 x c e)⟩
  bs := I.bs
  bsz := Nat.le_trans I.ok.bsz I.sz
  noex := fun b o e hb => by
    rcases (hf b hb).2.2.2.1 with z | z
    · exact I.ok.noex b o e z
    · exact absurd (Nat.lt_of_lt_of_le (Heap.lt_size e) (Nat.le_trans I.ok.bsz z)) (Nat.lt_irrefl _)
  exfs := fun b hb z => by
    rcases List.mem_cons.mp (I.stkSub b z) with q | q
    · exact (hf b hb).2.1 q
    · exact (hf b hb).2.2.1 q
  funs := I.stack
  frf := I.stkFree
theorem Inv.cxIn {scope : Scope} {N' : List Str} {ix : List (Option Nat)} {C D : Addr} {oD : Obj} {cl : List (Str × Addr)} {fp : List Addr} {h' : Heap} {tk : Nat} {m : Str → Option Value} (I : Inv X pins σ H s) (S : CompSc X.N X.env.scope scope N' ix)
    (hC : s.heap.objs.size ≤ C) (hD : s.heap.objs.size ≤ D) (hDC : D ≠ C) (eD : h'.get? D = some oD) (dD : ∀ v, oD.data ≠ .cell v)
    (c1 : ∀ y c, cl.lookup y = some c → X.env.cells.lookup y = some c) (c2 : ∀ y, (y, NameKind.free) ∈ scope.names → ∃ c, cl.lookup y = some c)
    (hf : ∀ b ∈ fp, FpOk X pins H b) (hlt : ∀ b ∈ fp, b < s.heap.objs.size) (k : ∀ b o, s.heap.get? b = some o → h'.get? b = some o) (hn : h'.Ns C m) :
    Inv (cxIn X scope N' C cl s H fp) [(D, oD)] (inSt ix σ) H { s with heap := h', toks := tk } where
  ok := I.cxIn_ok S hC c1 c2 hf hlt
  os := rfl
  bare := I.bare
  base := Un.kept k
  loc := by
    refine ⟨m, hn, fun j y v e1 e2 e3 => ?_⟩
    obtain ⟨i, h1, h2⟩ := inSt_get e2
    obtain ⟨z, hz1, hz2, hz3⟩ := S.cap j i h1
    change N'[j]? = some y at e1
    rw [e1] at hz1
    cases hz1
    have hk := S.free y hz3
    obtain ⟨m0, hn0, hl⟩ := I.loc
    obtain ⟨u, ru, lk⟩ := hl i y v hz2 h2 (.inr (.inl hk))
    refine ⟨u, ru, .inr ⟨?_, ?_⟩⟩
    · exact lookup_relabel_free (env := X.env) (S.frees y hz3)
    · rcases lk with ⟨k1, _⟩ | ⟨_, c, hc, ic⟩
      · rw [show X.env.kindOf y = some .cell from hk] at k1; cases k1
      · obtain ⟨c', hc'⟩ := c2 y hz3
        have := c1 y c' hc'
        rw [hc] at this
        cases this
        obtain ⟨o, ho, hd⟩ := ic
        exact ⟨c, hc', o, k _ _ ho, hd⟩
  cell := fun y c e => by
    obtain ⟨v, o, ho, hd⟩ := I.cell y c (c1 y c e)
    exact ⟨v, o, k _ _ ho, hd⟩
  free := I.hok.fresh hC
  freeC := fun y c e => I.freeC y c (c1 y c e)
  pin := fun p hp => by
    have e : p = (D, oD) := by
      rcases List.mem_append.mp hp with z | z
      · cases z
      · exact List.mem_singleton.mp z
    subst e
    refine ⟨eD, I.hok.fresh hD, hDC, fun z => ?_, dD⟩
    rcases List.mem_cons.mp (I.stkSub D z) with q | q
    · exact absurd (Nat.lt_of_lt_of_le I.lt hD) (by rw [show D = X.env.locals from q]; exact Nat.lt_irrefl _)
    · exact I.nofs hD q
  hok := I.hok.kept k
  len := by
    show (inSt ix σ).length = N'.length
    unfold inSt
    rw [List.length_map]
    exact S.len
end
section
variable {prog : Program} {w : World} {A : Around} {R : Result → Shared → Prop} {s : Shared}
theorem compLoop_anyE {elt target iter : Expr} {ifs : List Expr} {scope : Scope} {pos : Pos} {it acc : Value} {env : Env} (I : Nat → Shared → Prop)
    (turn : ∀ n s, I n s → wpAny (model prog w) A (pyNext it) (fun r s₁ => match r with
      | none => R (.ok .next) s₁
      | some v => wpAny (model prog w) A (letOwnedTupleGo target it v) (fun _ s₁' => wpAny (model prog w) A (assign target env v) (fun _ s₂ =>
          wpAny (model prog w) A (forIn ifs true fun c r => if r = true then do let ok ← isTrue c env (eval c env); pure (ForInStep.yield ok) else pure (ForInStep.yield r)) (fun ok s₃ =>
            if ok = true then wpAny (model prog w) A (eval elt env) (fun x s₄ =>
              wpAny (model prog w) A (call (.builtin "list.append") [acc, x]) (fun _ s₅ => ∃ m, m < n ∧ I m s₅) (notedBy (model prog w) A env fun x s' => R (.error x) s') s₄) (notedBy (model prog w) A env fun x s' => R (.error x) s') s₃
            else ∃ m, m < n ∧ I m s₃) (notedBy (model prog w) A env fun x s' => R (.error x) s') s₂) (notedBy (model prog w) A env fun x s' => R (.error x) s') s₁') (notedBy (model prog w) A env fun x s' => R (.error x) s') s₁) (notedBy (model prog w) A env fun x s' => R (.error x) s') s)
    (n : Nat) (h : I n s) :
    codeAny (model prog w) A (.compLoop (.ListComp elt [⟨target, iter, ifs, 0⟩] scope pos) 0 it acc env) R s := by
  refine codeAny_loop rfl I (fun n s hI => ?_) n h
  show wpAny _ A ((compTurn (.ListComp elt [⟨target, iter, ifs, 0⟩] scope pos) 0 it acc env).onRaise (fun x => do noteFrame x env; theTreesLotGoes x)) _ _ s
  refine wpAny_noted ?_
  rw [compTurn_list]
  refine wpAny_bind (wpAny_standAt (wpAny_bind (wpAny_mono (turn n s hI) (fun r s₁ h₁ => ?_) fun _ _ h' => h')))
  cases r with
  | none => exact wpAny_pure h₁
  | some v =>
    refine wpAny_bind (wpAny_mono h₁ (fun _ s₁' h₁' => ?_) fun _ _ h' => h')
    refine wpAny_bind (wpAny_mono h₁' (fun _ s₂ h₂ => wpAny_bind (wpAny_mono h₂ (fun ok s₃ h₃ => ?_) fun _ _ h' => h')) fun _ _ h' => h')
    cases ok with
    | false => exact wpAny_pure ⟨rfl, h₃⟩
    | true =>
      exact wpAny_bind (wpAny_bind (wpAny_mono h₃ (fun x s₄ h₄ => wpAny_bind (wpAny_mono h₄ (fun _ s₅ h₅ => wpAny_pure (wpAny_pure ⟨rfl, h₅⟩)) fun _ _ h' => h')) fun _ _ h' => h'))
end
def PIfs (X : Cx) (ifs : List Expr) (t : TT) : Prop :=
  ∀ (pins : List (Addr × Obj)) (s : Shared) (σ : St) (H : Hp) (Q : Bool → Hp → Prop), Inv X pins σ H s → t σ H Q →
    wpAny (model X.prog X.w) X.A (forIn ifs true fun c r => if r = true then do let ok ← isTrue c X.env (eval c X.env); pure (ForInStep.yield ok) else pure (ForInStep.yield r)) (TP X pins σ Q) X.xe s
def tYes : TT := fun _ H Q => Q true H
theorem pf_nil {X : Cx} : PIfs X [] tYes := fun _ _ _ H _ I h => wpAny_tests_nil ⟨H, I, h⟩
def CompW (σ' : St) (j : Nat) (ti : TT) (te : TE) (Q : VK) (J : It) (H : Hp) : Prop :=
  ∃ W : Nat → Nat → List V → Hp → Prop, (∃ m, W 0 m [] H) ∧ ∀ i m ys H, W i m ys H →
    (J.stop i H ∧ ∀ D, H D = none → Q (.ref D) (upd H D (.lst ys))) ∨
    (J.go i H ∧ ys.length < sizeLine ∧ ∃ N : List V → Hp → Prop, (∀ ys' H', N ys' H' → ∃ m', m' < m ∧ W (i + 1) m' ys' H') ∧
      ∀ x H', J.yld i H x H' → ti (σ'.set j (some x)) H' fun b H2 => if b = true then te (σ'.set j (some x)) H2 fun y H3 => N (ys ++ [y]) H3 else N ys H2)
def tComp (ix : List (Option Nat)) (wi : TI) (j : Nat) (ti : TT) (te : TE) : TE := fun σ H Q => wi σ H fun J H1 => CompW (inSt ix σ) j ti te Q J H1
def InC (X : Cx) (H : Hp) (s : Shared) (fp : List Addr) : Prop := ∃ pins σ, Inv X pins σ H s ∧ ∀ b ∈ fp, FpOk X pins H b
def CompT (σ' : St) (g : TG) (ti : TT) (te : TE) (Q : VK) (J : It) (H : Hp) : Prop :=
  ∃ W : Nat → Nat → List V → Hp → Prop, (∃ m, W 0 m [] H) ∧ ∀ i m ys H, W i m ys H →
    (J.stop i H ∧ ∀ D, H D = none → Q (.ref D) (upd H D (.lst ys))) ∨
    (J.go i H ∧ ys.length < sizeLine ∧ ∃ N : List V → Hp → Prop, (∀ ys' H', N ys' H' → ∃ m', m' < m ∧ W (i + 1) m' ys' H') ∧
      ∀ x H', J.yld i H x H' → g x σ' H' fun σ2 H1 => (σ2.length = σ'.length ∧ ∀ (k : Nat) z, σ'[k]? = some (some z) → σ2[k]? = some (some z)) ∧ ti σ2 H1 fun b H2 => if b = true then te σ2 H2 fun y H3 => N (ys ++ [y]) H3 else N ys H2)
section
variable {X : Cx} {pins : List (Addr × Obj)} {σ : St} {H : Hp} {s : Shared} {tg elt iter : Expr} {g : TG} {ifs : List Expr} {scope : Scope} {pos : Pos} {N' : List Str} {ix : List (Option Nat)} {wi : TI} {ti : TT} {te : TE}
theorem comp_runT {it : Addr} {fp : List Addr} {tn : Nat → Heap → Prop} {J : It} {cl : List (Str × Addr)} {E : Value → Shared → Prop} {RR : Value → Addr → Result → Shared → Prop} {Q : VK}
    (S : CompSc X.N X.env.scope scope N' ix) (hg : ∀ C cl s H fp, N'.Nodup → PG (cxIn X scope N' C cl s H fp) tg g) (hc : X.mild = true)
    (ht : ∀ C cl s H fp, PIfs (cxIn X scope N' C cl s H fp) ifs ti) (he : ∀ C cl s H fp, InC X H s fp → PE (cxIn X scope N' C cl s H fp) elt te)
    (c1 : ∀ y c, cl.lookup y = some c → X.env.cells.lookup y = some c) (c2 : ∀ y, (y, NameKind.free) ∈ scope.names → ∃ c, cl.lookup y = some c)
    (I : Inv X pins σ H s) {mm : Bool} (T : Turn X.prog X.w X.K tg J fp it tn mm) (tk : mm = true → X.calm = true) (hRE : ∀ acc C x s', compPost (model X.prog X.w) X.A X.xe none (fun _ _ => False) .none C (.error x) s' → RR acc C (.error x) s') (st : tn 0 s.heap) (hf : ∀ b ∈ fp, FpOk X pins H b) (hW : CompT (inSt ix σ) g ti te Q J H)
    (hRR : ∀ D C H' s' m', Inv X pins σ H' s' → s'.heap.Ns C m' → Loose X pins H' C → s.heap.objs.size ≤ C → Q (.ref D) H' → RR (.ref D) C (.ok .next) s') :
    wpAny (model X.prog X.w) X.A (newList []) (fun acc s₃ => wpAny (model X.prog X.w) X.A (newFunctionEnv scope X.env.globals cl [] X.env.qual none .none (some X.env)) (fun cenv s₄ =>
      codeAny (model X.prog X.w) X.A (.compStart (.ListComp elt [⟨tg, iter, ifs, 0⟩] scope pos) 0 (.ref it) acc { cenv with scope := relabel scope X.env }) (RR acc cenv.locals) s₄) E s₃) E s := by
  obtain ⟨W, ⟨m0, w0⟩, turn⟩ := hW
  have hlt : ∀ b ∈ fp, b < s.heap.objs.size := fun b hb => let ⟨_, e, _⟩ := T.obj _ _ st b hb; Heap.lt_size e
  refine wpAny_newObj_type (wpAny_newFunctionEnv S.nocell (by intro y hy; simp at hy) (fun h₁ hns₁ hsb₁ => ?_) S.kind)
  dsimp only at hns₁ hsb₁ ⊢
  generalize hH2 : s.heap.push { cls := .type "list", dict := none, data := .seq ([] : List Value).toArray } = H2 at hns₁ hsb₁ ⊢
  have hC : H2.objs.size = s.heap.objs.size + 1 := by rw [← hH2, Heap.size_push]
  have hDC : s.heap.objs.size ≠ H2.objs.size := by rw [hC]; exact Nat.ne_of_lt (Nat.lt_succ_self _)
  have hCle : s.heap.objs.size ≤ H2.objs.size := by rw [hC]; exact Nat.le_succ _
  have old : ∀ b o, s.heap.get? b = some o → h₁.get? b = some o := fun b o e => hsb₁.extBut b o (by rw [hC]; exact Nat.ne_of_lt (Nat.lt_succ_of_lt (Heap.lt_size e))) (Heap.get?_push_of_some _ (hH2 ▸ Heap.get?_push_of_some _ e))
  have hacc : h₁.get? s.heap.objs.size = some { cls := .type "list", data := .seq ([] : List Value).toArray 0 } := hsb₁.extBut _ _ hDC (Heap.get?_push_of_some _ (hH2 ▸ Heap.get?_push_size _ rfl))
  have st1 : tn 0 h₁ := T.keep _ _ _ st fun b hb o e => old b o e
  have loop : ∀ s₃ : Shared, s₃ = { s with heap := h₁, toks := s.toks + ([] : List (Str × Value)).length } →
      codeAny (model X.prog X.w) X.A (.compLoop (.ListComp elt [⟨tg, iter, ifs, 0⟩] scope pos) 0 (.ref it) (.ref s.heap.objs.size) (compEnvC scope cl H2.objs.size X.env))
        (RR (.ref s.heap.objs.size) H2.objs.size) s₃ := by
    rintro s₃ rfl
    generalize hX' : cxIn X scope N' H2.objs.size cl s H fp = X'
    have I0 : Inv X' [(s.heap.objs.size, { cls := .type "list", data := .seq ([] : List Value).toArray 0 })] (inSt ix σ) H { s with heap := h₁, toks := s.toks + ([] : List (Str × Value)).length } := by
      rw [← hX']
      exact I.cxIn S hCle (Nat.le_refl _) hDC hacc (fun v z => by cases z) c1 c2 hf hlt old hns₁
    have stat : ∀ {H' : Hp} {o : Obj}, (∀ b ∈ fp, H' b = none) → ∀ b ∈ fp, FpOk X' [(s.heap.objs.size, o)] H' b := fun {H' o} hn b hb => by
      rw [← hX']
      refine ⟨hn b hb, Nat.ne_of_lt (Nat.lt_of_lt_of_le (hlt b hb) hCle), fun z => ?_, .inl hb, fun y c e => (hf b hb).2.2.2.2.1 y c (c1 y c e), fun p hp z => ?_⟩
      · rcases List.mem_cons.mp (I.stkSub b z) with q | q
        · exact (hf b hb).2.1 q
        · exact (hf b hb).2.2.1 q
      · have e : p = (s.heap.objs.size, o) := by
          rcases List.mem_append.mp hp with q | q
          · cases q
          · exact List.mem_singleton.mp q
        subst e
        exact absurd (hlt b hb) (by rw [← z]; exact Nat.lt_irrefl _)
    have xP : X'.prog = X.prog := by rw [← hX']; rfl
    have xw : X'.w = X.w := by rw [← hX']; rfl
    have xK : X'.K = X.K := by rw [← hX']; rfl
    have xc : TOk X' mm := by rw [← hX']; exact ⟨tk, hc⟩
    have xA : X'.A = X.A := by rw [← hX']; rfl
    have xe : X'.env = compEnvC scope cl H2.objs.size X.env := by rw [← hX']; rfl
    have xx : ∀ x s1, X'.xe x s1 → notedBy (model X'.prog X'.w) X'.A X'.env (fun x s' => RR (.ref s.heap.objs.size) H2.objs.size (.error x) s') x s1 := by
      rw [← hX']
      exact fun x s1 z => wpAny_mono z (fun _ _ q => hRE _ _ _ _ q) fun _ _ q => hRE _ _ _ _ q
    have xN : X'.N = N' := by rw [← hX']; rfl
    have ht' : PIfs X' ifs ti := by rw [← hX']; exact ht _ _ _ _ _
    have he' : PE X' elt te := by rw [← hX']; exact he _ _ _ _ _ ⟨pins, σ, I, hf⟩
    have hg' : PG X' tg g := by rw [← hX']; exact hg _ _ _ _ _ S.nd
    rw [← xA, ← xP, ← xw, ← xe]
    refine compLoop_anyE (fun k s' => ∃ i ys us n H', Inv X' [(s.heap.objs.size, { cls := .type "list", data := .seq (us : List Value).toArray n })] (inSt ix σ) H' s' ∧ Vals ys us ∧ ys.length ≤ sizeLine ∧ tn i s'.heap ∧ (∀ b ∈ fp, H' b = none) ∧ W i k ys H') ?_ m0
      ⟨0, [], [], 0, H, I0, .nil, Nat.zero_le _, st1, fun b hb => (hf b hb).1, w0⟩
    rintro k s3 ⟨i, ys, us, n, H3, I3, rv, hz, st3, fr3, w3⟩
    rcases turn i k ys H3 w3 with ⟨stop, qn⟩ | ⟨go, hz', N, hN, step⟩
    · rw [← xP, ← xw, ← xK] at T
      refine thn (T.done X' rfl rfl rfl xc i _ s3 (inSt ix σ) H3 _ I3 (stat fr3) st3 stop) fun r s4 ⟨hr, I4⟩ => ?_
      subst hr
      obtain ⟨m', hn', _⟩ := id I4.loc
      rw [xe] at hn'
      obtain ⟨eD, nD, _⟩ := I4.pin _ (List.mem_append_right _ List.mem_cons_self)
      have un : Un (frs X.stack) fp H H3 s.heap s4.heap := by have := I4.base; rw [← hX'] at this; exact this
      have os : s4.os = s.os := by have := I4.os; rw [← hX'] at this; exact this
      have hok : HOk X.prog X.w H3 s4.heap := by have := I4.hok; rw [xP, xw] at this; exact this
      have hCn : H3 H2.objs.size = none := by have := I4.free; rw [xe] at this; exact this
      have I5 : Inv X pins σ H3 s4 := I.call' os un hok I4.bare fun b hb => let ⟨_, a, _, c, d, e⟩ := hf b hb; ⟨c, a, d, e⟩
      have lD : Loose X pins H3 s.heap.objs.size := I.loose (Nat.le_refl _) nD
      have I6 := I5.adopt (o := .lst ys) lD.no lD.ab lD.nl lD.nc lD.np ⟨hz, us, n, rv, eD⟩
      exact hRR _ _ _ _ m' I6 hn' (I.loose hCle (by rw [upd_ne (Ne.symm hDC)]; exact hCn)) hCle (qn _ nD)
    · have T' := T
      rw [← xP, ← xw, ← xK] at T'
      refine thn (T'.item X' rfl rfl rfl xc i _ s3 (inSt ix σ) H3 _ I3 (stat fr3) st3 go) fun r s4 ⟨u, hr, h4⟩ => ?_
      subst hr
      refine thn h4 fun _ s5 ⟨v, H5, I5, r5, y5, st5, fr5⟩ => ?_
      have I5' := I5.pinned (stat fr5) (T.obj _ _ st5)
      have t5 := hg' _ s5 _ H5 v u _ I5' r5 (step v H5 y5)
      refine wpAny_mono t5 (fun _ s6 ⟨σ6, H6, I6, ⟨kl, kw⟩, q6⟩ => ?_) xx
      have t6 := ht' _ s6 _ H6 _ I6 q6
      refine wpAny_mono t6 (fun ok s7 ⟨H7, I7, q7⟩ => ?_) xx
      have weak : ∀ {H8 : Hp} {s8 : Shared}, Inv X' ([(s.heap.objs.size, { cls := .type "list", data := .seq us.toArray n })] ++ pinsAt fp s5.heap) σ6 H8 s8 →
          Inv X' ([(s.heap.objs.size, { cls := .type "list", data := .seq us.toArray n })] ++ pinsAt fp s5.heap) (inSt ix σ) H8 s8 ∧ tn (i + 1) s8.heap ∧ ∀ b ∈ fp, H8 b = none := fun {H8 s8} I8 => by
        refine ⟨I8.weak kl.symm kw, T.keep _ _ _ st5 fun b hb o e => (I8.pin (b, o) (List.mem_append_right _ (List.mem_append_right _ (mem_pinsAt hb e)))).1, fun b hb => ?_⟩
        · obtain ⟨o, e, d⟩ := T.obj _ _ st5 b hb
          exact (I8.pin (b, o) (List.mem_append_right _ (List.mem_append_right _ (mem_pinsAt hb e)))).2.1
      cases ok with
      | false =>
        have q7' : N ys H7 := q7
        obtain ⟨m', hm, w7⟩ := hN ys H7 q7'
        obtain ⟨J7, st7, fr7⟩ := weak I7
        exact ⟨m', hm, i + 1, ys, us, n, H7, J7.unpinned, rv, hz, st7, fr7, w7⟩
      | true =>
        have q7' : te σ6 H7 fun y H3 => N (ys ++ [y]) H3 := q7
        have t8 := he' _ s7 _ H7 _ I7 q7'
        show wpAny _ _ _ _ _ _
        refine wpAny_mono t8 (fun uy s8 ⟨y, H8, I8, r8, n8⟩ => ?_) xx
        obtain ⟨m', hm, w8⟩ := hN _ _ n8
        obtain ⟨J8, st8, fr8⟩ := weak I8
        have K8 := J8.unpinned
        obtain ⟨eD, nD, neL, nfs, _⟩ := K8.pin _ (List.mem_append_right _ List.mem_cons_self)
        have hl := rv.length
        refine call_meets F.slot_list_append ⟨_, eD, rfl⟩ F.entry_list_append (F.args_list_append_2 _ _) (PySem.list_append s.heap.objs.size us.toArray n uy (by rw [List.size_toArray]; omega)) ⟨eD, ?_⟩
        have eD2 := PySem.IsL.update eD (·.push uy)
        have dD : ∀ p ∈ X'.pn ++ [], p.1 ≠ s.heap.objs.size := fun p hp => by
          rw [← hX'] at hp
          rcases List.mem_append.mp hp with q | q <;> cases q
        have K0 : Inv X' [] (inSt ix σ) H8 s8 := K8.pins_of fun p hp => by cases hp
        have K9 := K0.turned (t' := s8.toks) (h' := s8.heap.update s.heap.objs.size (Obj.mapSeq (·.push uy))) (it := s.heap.objs.size) (fun b o hb q => (Heap.get?_update_other s8.heap _ (Ne.symm hb)).trans q) nD neL (.inr (by rw [← hX']; exact Nat.le_refl _)) (fun y' c e z => by
          rw [xe] at e
          obtain ⟨v', q⟩ := I.cell y' c (c1 y' c e)
          exact absurd q.lt (by rw [z]; exact Nat.lt_irrefl _)) dD
        refine ⟨m', hm, i + 1, ys ++ [y], us ++ [uy], (if ((us.toArray.push uy).size == us.toArray.size) = true then n else n + 1), H8, K9.pins_of fun p hp => ?_, rv.append (.cons r8 .nil), by rw [List.length_append, List.length_singleton]; omega, ?_, fr8, w8⟩
        · have e := List.mem_singleton.mp hp
          subst e
          exact ⟨by rw [show (us ++ [uy]).toArray = us.toArray.push uy by simp]; exact eD2, nD, neL, nfs, fun v z => by cases z⟩
        · exact T.keep _ _ _ st8 fun b hb o e => (Heap.get?_update_other s8.heap _ (Nat.ne_of_gt (hlt b hb))).trans e
  exact codeAny_compStart_list (loop _ rfl) (T.self X.A 0 _ _ _ st1 (loop _ rfl))
end
section
variable {X : Cx} {pins : List (Addr × Obj)} {σ : St} {H : Hp} {s : Shared} {x : Str} {px : Pos} {elt iter : Expr} {ifs : List Expr} {scope : Scope} {pos : Pos} {N' : List Str} {ix : List (Option Nat)} {j : Nat} {wi : TI} {ti : TT} {te : TE}
theorem compW_T {Q : VK} {J : It} {H : Hp} (hij : ix[j]? = some none) (h : CompW (inSt ix σ) j ti te Q J H) : CompT (inSt ix σ) (gName j) ti te Q J H := by
  obtain ⟨W, w0, turn⟩ := h
  refine ⟨W, w0, fun i m ys H w => ?_⟩
  rcases turn i m ys H w with z | ⟨go, hz, N, hN, step⟩
  · exact .inl z
  · refine .inr ⟨go, hz, N, hN, fun x H' y => ⟨⟨by simp, fun k z e => ?_⟩, step x H' y⟩⟩
    by_cases hk : j = k
    · subst hk
      exfalso
      obtain ⟨i', q1, _⟩ := inSt_get e
      rw [hij] at q1
      cases q1
    · rw [List.getElem?_set_ne hk]; exact e
theorem pg_own {C : Addr} {cl : List (Str × Addr)} {s : Shared} {H : Hp} {fp : List Addr} (nd : N'.Nodup) (hj : N'[j]? = some x) (hx : scope.names.lookup x = some .local) : PG (cxIn X scope N' C cl s H fp) (.Name x px) (gName j) :=
  pg_name nd hj (.inl (lookup_relabel_local hx)) (.inr (lookup_relabel_local hx))
theorem comp_clos (I : Inv X pins σ H s) (S : CompSc X.N X.env.scope scope N' ix) : ∃ cl, closureFor scope X.env = pure cl ∧ (∀ y c, cl.lookup y = some c → X.env.cells.lookup y = some c) ∧ ∀ y, (y, NameKind.free) ∈ scope.names → ∃ c, cl.lookup y = some c :=
  closureFor_ok fun ⟨n, k⟩ hy hk => by
    dsimp only at hk
    subst hk
    exact I.ok.has n (.inl (S.free n hy))
theorem pe_comp {N' : List Str} {ix : List (Option Nat)} (S : CompSc X.N X.env.scope scope N' ix) (hj : N'[0]? = some x) (hij : ix[0]? = some none) (hx : scope.names.lookup x = some .local) (hc : X.mild = true) (hi : PI X (.Name x px) iter wi)
    (ht : ∀ C cl s H fp, PIfs (cxIn X scope N' C cl s H fp) ifs ti) (he : ∀ C cl s H fp, InC X H s fp → PE (cxIn X scope N' C cl s H fp) elt te) (hs : ∀ x, foldedSetIterable iter X.env x = pure x) :
    PE X (.ListComp elt [⟨.Name x px, iter, ifs, 0⟩] scope pos) (tComp ix wi 0 ti te) := by
  intro pins s σ H Q I h
  rw [eval_ListComp]
  obtain ⟨cl, hcl, c1, c2⟩ := comp_clos I S
  refine wpAny_comprehension_free (use := none) rfl hs hcl S.kind S.names (thn (hi pins s σ H _ I h) fun v s1 h1 => thn h1 fun itv s2 h2 => ?_)
  obtain ⟨it, fp, tn, J, H2, e, I2, ⟨mm, T, tk⟩, st2, f2, hW⟩ := h2
  subst e
  refine comp_runT (RR := fun acc C => compPost (model X.prog X.w) X.A X.xe none (EP X pins σ Q) acc C) S (fun _ _ _ _ _ nd => pg_own nd hj hx) hc ht he c1 c2 I2 T tk (fun _ _ _ _ z => z) st2 f2 (compW_T hij hW) fun D C H' s' m' I' hn lo _ q => ?_
  exact ⟨m', hn, fun h' hs' => ⟨.ref D, H', I'.same lo hs' rfl, rfl, q⟩⟩
theorem ps_setComp {y : Str} {py spos : Pos} {i : Nat} {N' : List Str} {ix : List (Option Nat)} (hN : X.N.Nodup) (hi' : X.N[i]? = some y) (hy : X.env.scope.names.lookup y = some .local)
    (S : CompSc X.N X.env.scope scope N' ix) (hj : N'[0]? = some x) (hij : ix[0]? = some none) (hx : scope.names.lookup x = some .local) (hc : X.mild = true) (hi : PI X (.Name x px) iter wi)
    (ht : ∀ C cl s H fp, PIfs (cxIn X scope N' C cl s H fp) ifs ti) (he : ∀ C cl s H fp, InC X H s fp → PE (cxIn X scope N' C cl s H fp) elt te)
    (hsw : swapsWith (.ListComp elt [⟨.Name x px, iter, ifs, 0⟩] scope pos) (some (.Name y py)) spos.line X.env = pure true := by rfl) (hs : ∀ x, foldedSetIterable iter X.env x = pure x := by intro _; rfl) :
    PS X (.Assign [.Name y py] (.ListComp elt [⟨.Name x px, iter, ifs, 0⟩] scope pos) spos) (tAsg (tComp ix wi 0 ti te) (gName i)) := by
  intro pins s σ H D I h
  obtain ⟨cl, hcl, c1, c2⟩ := comp_clos I S
  rw [exec_Assign_Name_used _ _ _ _ hsw]
  refine wpAny_bind (wpAny_standAt (wpAny_bind ?_))
  show wpAny _ X.A (do let _ ← comprehension (.ListComp elt [⟨.Name x px, iter, ifs, 0⟩] scope pos) scope X.env _ (newList []) false (eval iter X.env) (some (assign (.Name y py) X.env))) _ _ s
  refine wpAny_bind (wpAny_mono (wpAny_comprehension_free (use := some (assign (.Name y py) X.env)) (Q := fun _ s' => SP X pins D .next s') rfl hs hcl S.kind S.names
    (thn (hi pins s σ H _ I h) fun v s1 h1 => thn h1 fun itv s2 h2 => ?_)) (fun _ s' hq => wpAny_pure (wpAny_pure hq)) fun _ _ e => e)
  obtain ⟨it, fp, tn, J, H2, e, I2, ⟨mm, T, tk⟩, st2, f2, hW⟩ := h2
  subst e
  refine comp_runT (RR := fun acc C => compPost (model X.prog X.w) X.A X.xe (some (assign (.Name y py) X.env)) (fun _ s' => SP X pins D .next s') acc C) S (fun _ _ _ _ _ nd => pg_own nd hj hx) hc ht he c1 c2 I2 T tk (fun _ _ _ _ z => z) st2 f2 (compW_T hij hW) fun D' C H' s' m' I' hn lo hC q => ?_
  show wpAny _ X.A (assign (.Name y py) X.env (.ref D')) _ _ _
  refine wpAny_assign_Name (store_ok2 (i := i) (v := .ref D') I' hN hi' (.inl hy) rfl (fun s3 I3 ⟨a, sb, ha⟩ => ?_) (.inr hy))
  have hCa : C ≠ a := by
    rcases ha with z | z
    · rw [z]; exact lo.nl
    · exact Ne.symm (lo.nc _ _ z)
  refine ⟨m', hn.sameBut sb hCa, fun h' hs' => ?_⟩
  exact ⟨_, H', I3.same lo hs' rfl, q⟩
end
end L2
set_option Elab.async false
set_option linter.all false
set_option maxRecDepth 100000
set_option maxHeartbeats 4000000
namespace L2
open PySem PySem.Spec PyProof.Rows
section
variable {X : Cx}
def clsV : V → Option Value
  | .ty n => some (.type n)
  | .ref a => some (.ref a)
  | _ => none
theorem clsV_rel {x : V} {c u : Value} (h : clsV x = some c) (r : RelV x u) : u = c := by
  cases x <;> first | (cases h; exact r) | cases h
def rIsi (K : PySem.W.Frag) : List V → Hp → VK → Prop := fun xs H Q => ∃ x t cv c b, xs = [x, cv] ∧ clsV cv = some c ∧ TyOf K H x t ∧ PySem.W.kitOne K t c = some b ∧ Q (.bl b) H
theorem call_isi : CallR X (.builtin "isinstance") (rIsi X.K) := by
  intro pins s σ H xs us Q I r h
  obtain ⟨x, t, cv, c, b, rfl, hc, ty, e, q⟩ := h
  obtain ⟨u, w', rfl, ru, rc⟩ := vals2 r
  have ec := clsV_rel hc rc
  subst ec
  exact isinst_ok I ru ty e fun tk => ⟨.bl b, H, I.tok tk, rfl, q⟩
def rInsert : V → List V → Hp → VK → Prop := fun x vs H Q => ∃ l xs i y, x = .ref l ∧ vs = [.int i, y] ∧ H l = some (.lst xs) ∧ 0 ≤ i ∧ i ≤ (xs.length : Int) ∧ xs.length < sizeLine ∧ Q .non (upd H l (.lst (xs.take i.toNat ++ y :: xs.drop i.toNat)))
theorem mt_insert : MtM X "list.insert" rInsert := by
  intro pins s σ H x vs v us Q I rx rv h
  obtain ⟨l, xs, i, y, rfl, rfl, hH, h0, h1, hz, q⟩ := h
  cases rx
  obtain ⟨ui, u, rfl, ri, ru⟩ := rv.two
  obtain ⟨t, rfl⟩ := ri
  obtain ⟨z, its, n, r, hl, e⟩ := I.lstM hH
  have hsz : sizeLine = 16777216 := sizeLine_eq
  have hf : Builtin.List.listFitsIndex i = true := by
    unfold Builtin.List.listFitsIndex
    simp only [Bool.and_eq_true, decide_eq_true_eq]
    omega
  refine call_meets PySem.F.slot_list_insert ⟨_, e, rfl⟩ PySem.F.entry_list_insert (PySem.F.args_list_insert_3 _ _ _) (PySem.AutoSeq1.list_insert_list_int_val_1 l its.toArray n i t u (by simp [hf]) (by rw [List.size_toArray]; omega)) ⟨e, ?_⟩
  refine ⟨.non, _, I.lset (its' := its.take i.toNat ++ u :: its.drop i.toNat) hH e ?_ ((r.take _).append (.cons ru (r.drop _))) ?_, rfl, q⟩
  · have hk : (if i < 0 then (i + ((its.toArray.size : Nat) : Int)).toNat else min i.toNat its.toArray.size) = i.toNat := by
      rw [if_neg (by omega), List.size_toArray]
      omega
    dsimp only
    rw [hk]
    apply Array.ext'
    simp
    exact List.take_of_length_le (by simp)
  · simp only [List.length_append, List.length_cons, List.length_take, List.length_drop]
    omega
theorem call_sum (hc : X.calm = true) : CallR X (.builtin "sum") (fun xs H Q => ∃ (p : Addr) (ns : List Int), xs = [.ref p] ∧ SqL X.K H p (ns.map V.int) ∧ Q (.int ns.sum) H) := by
  intro pins s σ H xs us Q I r h
  obtain ⟨p, ns, rfl, hq, q⟩ := h
  obtain ⟨u, rfl, rx⟩ := vals1 r
  cases rx
  obtain ⟨its, rv, pl, hz⟩ := I.list hq
  have hi := intsAre_of rv
  obtain ⟨xs', hx⟩ := hi.allInts.items
  have hl' : s.heap.IsList p (intItems xs') := hx ▸ pl.isList
  refine sum_intListG (I.ok.hd hc) hl' fun h' tk t' hk => ?_
  have e1 : ns = xs'.toList.map (·.1) := by
    rw [← nums_intItems, ← hx]
    exact (show numsOf its.toArray.toList = ns from hi.numsOf).symm
  have e2 : preSum (numAt xs') xs'.size = ns.sum := by
    rw [preSum_eq, List.take_of_length_le (by simp), e1]
  rw [e2]
  exact ⟨.int ns.sum, H, I.kept hk, ⟨_, rfl⟩, q⟩
theorem bools_of {bs : List Bool} : ∀ {us : List Value}, Vals (bs.map V.bl) us → ∀ (i : Nat) v, us[i]? = some v → ∃ b, bs[i]? = some b ∧ v = .bool b := by
  intro us r i v e
  have hl := r.length
  have hi : i < us.length := (List.getElem?_eq_some_iff.mp e).1
  rw [List.length_map] at hl
  have hb : bs[i]? = some bs[i] := List.getElem?_eq_getElem (by omega)
  obtain ⟨u, e2, ru⟩ := r.get (i := i) (x := V.bl bs[i]) (by rw [List.getElem?_map, hb]; rfl)
  rw [e] at e2
  cases e2
  exact ⟨_, hb, ru⟩
theorem range_all_bs (bs : List Bool) : ((List.range bs.length).all fun i => (bs[i]?).getD true) = bs.all id := by
  rw [Bool.eq_iff_iff, List.all_eq_true, List.all_eq_true]
  constructor
  · intro h b hb
    obtain ⟨i, hi, rfl⟩ := List.getElem_of_mem hb
    have := h i (List.mem_range.mpr hi)
    simpa [List.getElem?_eq_getElem hi] using this
  · intro h i hi
    have hi' := List.mem_range.mp hi
    simpa [List.getElem?_eq_getElem hi'] using h _ (List.getElem_mem hi')
theorem iter_kept {s : Shared} {h' : Heap} {o : Obj} (hk : ∀ b x, b ∉ [s.heap.objs.size] → (s.heap.push o).get? b = some x → h'.get? b = some x) : ∀ b x, s.heap.get? b = some x → h'.get? b = some x :=
  fun b x e => hk b x (fun hm => by rw [List.mem_singleton.mp hm] at e; exact Nat.lt_irrefl _ (Heap.lt_size e)) (Heap.get?_push_of_some _ e)
theorem call_all (hc : X.calm = true) : CallR X (.builtin "all") (fun xs H Q => ∃ (p : Addr) (bs : List Bool), xs = [.ref p] ∧ SqL X.K H p (bs.map V.bl) ∧ Q (.bl (bs.all id)) H) := by
  intro pins s σ H xs us Q I r h
  obtain ⟨p, bs, rfl, hq, q⟩ := h
  obtain ⟨u, rfl, rx⟩ := vals1 r
  cases rx
  obtain ⟨its, rv, pl, hz⟩ := I.list hq
  have hl := pl.isList
  have hlt : p < s.heap.objs.size := by obtain ⟨_, e, _⟩ := hl; exact Heap.lt_size e
  have hlen : bs.length = its.length := by have := rv.length; rw [List.length_map] at this; exact this
  refine call_all_walk (wpAny_pyIter_list hl ?_)
  refine ⟨s.heap.objs.size, [s.heap.objs.size, p], [s.heap.objs.size], its.toArray.size, _, _, fun i => (bs[i]?).getD true, rfl, Walks.list (A := X.A.in1) (I.ok.hd hc) _ p (Nat.ne_of_lt hlt) its.toArray,
    ⟨⟨_, Heap.get?_push_size _ rfl, rfl, rfl⟩, hl.push _⟩, fun i v s' Q' E' hP hQ => ?_, fun h' tk hk => ?_⟩
  · obtain ⟨b, e, rfl⟩ := bools_of rv i v (by simpa using hP)
    simp only [e, Option.getD_some] at hQ
    exact wpAny_truthy_bool hQ
  · have e : ((List.range its.toArray.size).all fun i => (bs[i]?).getD true) = bs.all id := by
      rw [List.size_toArray, ← hlen]; exact range_all_bs bs
    rw [e]
    exact ⟨.bl _, H, I.kept (iter_kept hk), rfl, q⟩
def Itv (K : PySem.W.Frag) (a : Addr) (xs : List V) : It :=
  ⟨fun i H => i < xs.length ∧ SqL K H a xs, fun i H x H' => H' = H ∧ xs.reverse[i]? = some x, fun i _ => i = xs.length⟩
theorem turn_rev {P : Program} {w : World} {K : PySem.W.Frag} {tg : Expr} (a it : Addr) (xs : List V) : Turn P w K tg (Itv K a xs) [it] it (fun i h => h.IsRevIter it a ((xs.length : Int) - 1 - (i : Int))) true where
  mem := by simp
  obj := fun i h st b hb => by
    have e : b = it := by simpa using hb
    subst e
    obtain ⟨o, e, c, d⟩ := st
    exact ⟨o, e, fun v z => by rw [d] at z; cases z⟩
  keep := fun i h h' st k => st.at fun o e => k it (by simp) o e
  item := by
    intro X hP hw hK hc i pins s σ H E I hf st hg
    subst hP hw hK
    obtain ⟨hi, hq⟩ := hg
    obtain ⟨its, rv, p, hz⟩ := I.list hq
    have hl := rv.length
    obtain ⟨u, hu, ru⟩ := rv.get (List.getElem?_eq_getElem (l := xs) (i := xs.length - 1 - i) (by omega))
    obtain ⟨f0, f1, f2, f3, f4, f5⟩ := hf it (by simp)
    have e : (xs.length : Int) - 1 - (i : Int) = ((xs.length - 1 - i : Nat) : Int) := by omega
    have st0 := st
    rw [e] at st0
    refine wpAny_pyNext_rev_item st0 p.isList (x := u) (by simpa using hu) fun h' st' sb => ?_
    have I1 : Inv X pins σ H { s with heap := h' } := I.turned (t' := s.toks) (fun b o hb e => (sb.2 b hb).trans e) f0 f1 f3 f4 f5
    have e2 : ((xs.length - 1 - i : Nat) : Int) - 1 = (xs.length : Int) - 1 - ((i + 1 : Nat) : Int) := by omega
    rw [e2] at st'
    obtain ⟨o, e, c, d⟩ := id st'
    refine ⟨u, rfl, go_of (s := { s with heap := h' }) e c d (by decide) ⟨_, H, I1, ru, ⟨rfl, ?_⟩, st', fun b hb => (hf b hb).1⟩⟩
    rw [List.getElem?_reverse hi, List.getElem?_eq_getElem (by omega)]
  done := by
    intro X hP hw hK hc i pins s σ H E I hf st hg
    subst hP hw hK
    have hg' : i = xs.length := hg
    subst hg'
    obtain ⟨f0, f1, f2, f3, f4, f5⟩ := hf it (by simp)
    have e : (xs.length : Int) - 1 - (xs.length : Int) = -1 := by omega
    have st0 := st
    rw [e] at st0
    exact wpAny_pyNext_rev_end (I.ok.hd (hc.1 rfl)) st0 fun h' eb => ⟨rfl, I.turned (t' := s.toks) (fun b o hb e => eb b o hb e) f0 f1 f3 f4 f5⟩
  self := fun _ _ _ _ _ st h => wpAny_pyIter_revIter st h
def iRev (K : PySem.W.Frag) (ta : TA) : TI := fun σ H R => ta σ H fun vs H1 => ∃ a xs, vs = [.ref a] ∧ SqL K H1 a xs ∧ R (Itv K a xs) H1
theorem pi_rev {tg a : Expr} {ta : TA} {p pos : Pos} (hg : Gl X "reversed") (hm : X.mg "reversed" = none) (ha : PA X [a] ta) (hs : starEach [a] X.env = [(false, eval a X.env)] := by rfl) (hca : X.calm = true := by rfl) : PI X tg (.Call (.Name "reversed" p) [a] [] pos) (iRev X.K ta) := by
  intro pins s σ H R I h
  refine Call_ (ld_blt I hg hm boot_reversed (PyProof.Rows.callWith_type1 (thn (ha pos pins s σ H _ I h) fun us s1 ⟨vs, H1, I1, r1, q1⟩ => ?_) hs rfl))
  obtain ⟨l, xs, e, hq, q⟩ := q1
  subst e
  obtain ⟨u, rfl, ru⟩ := vals1 r1
  cases ru
  obtain ⟨its, rv, pl, hz⟩ := I1.list hq
  have hl := rv.length
  refine call_reversed_list pl.isList ?_
  have st : (s1.heap.push (revObj l ((its.toArray.size : Int) - 1))).IsRevIter s1.heap.objs.size l ((xs.length : Int) - 1 - ((0 : Nat) : Int)) := by
    have e : (xs.length : Int) - 1 - ((0 : Nat) : Int) = (its.toArray.size : Int) - 1 := by simp only [List.size_toArray]; omega
    rw [e]
    exact ⟨_, Heap.get?_push_size _ rfl, rfl, rfl⟩
  refine wpAny_pyIter_revIter (s := { s1 with heap := s1.heap.push (revObj l ((its.toArray.size : Int) - 1)) }) st ?_
  refine ⟨s1.heap.objs.size, [s1.heap.objs.size], _, _, H1, rfl, I1.kept (t' := s1.toks) fun b o e => Heap.get?_push_of_some _ e, ⟨true, turn_rev l _ xs, fun _ => hca⟩, st, fun b hb => ?_, q⟩
  have e : b = s1.heap.objs.size := by simpa using hb
  subst e
  exact I1.fpOk (Nat.le_refl _) (I1.hok.fresh (Nat.le_refl _))
end
structure Wk (J : It) (xs : List V) (H : Hp) : Prop where
  go : ∀ i H3, Same H H3 → i < xs.length → J.go i H3
  yl : ∀ i H3 x H', Same H H3 → i < xs.length → J.yld i H3 x H' → H' = H3 ∧ xs[i]? = some x
  st : ∀ H3, Same H H3 → J.stop xs.length H3
theorem wk_list {K : PySem.W.Frag} {a : Addr} {xs : List V} {H : Hp} (h : SqL K H a xs) : Wk (Itl K a) xs H where
  go := fun i H3 s hi => ⟨xs, xs[i], s.seq h, List.getElem?_eq_getElem hi⟩
  yl := fun i H3 x H' s hi y => ⟨y.1, y.2 xs (s.seq h)⟩
  st := fun H3 s => ⟨xs, s.seq h, Nat.le_refl _⟩
theorem wk_rev {K : PySem.W.Frag} {a : Addr} {xs : List V} {H : Hp} (h : SqL K H a xs) : Wk (Itv K a xs) xs.reverse H where
  go := fun i H3 s hi => ⟨by simpa using hi, s.seq h⟩
  yl := fun i H3 x H' s hi y => y
  st := fun H3 s => by show xs.reverse.length = xs.length; simp
theorem wk_range {lo : Int} {n : Nat} {H : Hp} : Wk (Itr lo n) ((List.range n).map fun (i : Nat) => V.int (lo + (i : Int))) H where
  go := fun i H3 s hi => by show i < n; simpa using hi
  yl := fun i H3 x H' s hi y => ⟨y.1, by
    have hi' : i < n := by simpa using hi
    rw [y.2, List.getElem?_map, List.getElem?_range hi']
    rfl⟩
  st := fun H3 s => by show n ≤ _; simp
theorem comp_pure {J : It} {xs ys : List V} {σ' : St} {j : Nat} {te : TE} {Q : VK} {H : Hp} (W : Wk J xs H) (hz : xs.length ≤ sizeLine) (hl : ys.length = xs.length)
    (hs : ∀ (i : Nat) x y, xs[i]? = some x → ys[i]? = some y → ∀ Q' : VK, Q' y H → te (σ'.set j (some x)) H Q') (hd : ∀ D, H D = none → Q (.ref D) (upd H D (.lst ys))) : CompW σ' j tYes te Q J H := by
  refine ⟨fun i m zs H3 => m = xs.length - i ∧ i ≤ xs.length ∧ H3 = H ∧ zs = ys.take i, ⟨xs.length, by simp, Nat.zero_le _, rfl, by simp⟩, ?_⟩
  rintro i m zs H3 ⟨rfl, hi, rfl, rfl⟩
  by_cases hlt : i < xs.length
  · refine .inr ⟨W.go i _ (Same.refl _) hlt, by rw [List.length_take]; omega, fun zs' H' => H' = H3 ∧ zs' = ys.take (i + 1), fun zs' H' p => ⟨xs.length - (i + 1), by omega, rfl, hlt, p.1, p.2⟩, fun x H' y => ?_⟩
    obtain ⟨e, ex⟩ := W.yl i _ x H' (Same.refl _) hlt y
    subst e
    unfold tYes
    dsimp only
    rw [if_pos rfl]
    have hy : ys[i]? = some (ys[i]'(by omega)) := List.getElem?_eq_getElem _
    refine hs i x _ ex hy _ ⟨rfl, ?_⟩
    rw [List.take_add_one, hy]
    rfl
  · have e : i = xs.length := by omega
    subst e
    refine .inl ⟨W.st _ (Same.refl _), ?_⟩
    rw [List.take_of_length_le (by omega)]
    exact hd
theorem comp_news {J : It} {xs : List V} {ls : List (List V)} {σ' : St} {j : Nat} {te : TE} {Q : VK} {H : Hp} (W : Wk J xs H) (hz : xs.length ≤ sizeLine) (hl : ls.length = xs.length)
    (hs : ∀ (i : Nat) x l H3, xs[i]? = some x → ls[i]? = some l → Same H H3 → ∀ Q' : VK, (∀ D, H3 D = none → Q' (.ref D) (upd H3 D (.lst l))) → te (σ'.set j (some x)) H3 Q')
    (hd : ∀ (as : List Addr) H', Same H H' → as.length = ls.length → as.Nodup → (∀ b ∈ as, H b = none) → (∀ (i : Nat) a l, as[i]? = some a → ls[i]? = some l → H' a = some (.lst l)) → ∀ D, H' D = none → Q (.ref D) (upd H' D (.lst (as.map V.ref)))) : CompW σ' j tYes te Q J H := by
  refine ⟨fun i m zs H3 => m = xs.length - i ∧ i ≤ xs.length ∧ ∃ as : List Addr, zs = as.map V.ref ∧ as.length = i ∧ Same H H3 ∧ as.Nodup ∧ (∀ b ∈ as, H b = none) ∧ (∀ b ∈ as, ∃ o, H3 b = some o) ∧ ∀ (k : Nat) a l, as[k]? = some a → ls[k]? = some l → H3 a = some (.lst l),
    ⟨xs.length, by simp, Nat.zero_le _, [], rfl, rfl, Same.refl _, List.nodup_nil, (fun _ h => by cases h), (fun _ h => by cases h), fun k a l e => by simp at e⟩, ?_⟩
  rintro i m zs H3 ⟨rfl, hi, as, rfl, hlen, sm, nd, fr, there, hrow⟩
  by_cases hlt : i < xs.length
  · refine .inr ⟨W.go i _ sm hlt, by rw [List.length_map]; omega, _, fun zs' H' p => ⟨xs.length - (i + 1), by omega, rfl, hlt, p⟩, fun x H' y => ?_⟩
    obtain ⟨e, ex⟩ := W.yl i _ x H' sm hlt y
    subst e
    unfold tYes
    dsimp only
    rw [if_pos rfl]
    have hy : ls[i]? = some (ls[i]'(by omega)) := List.getElem?_eq_getElem _
    refine hs i x _ H' ex hy sm _ fun D hD => ?_
    have nD : D ∉ as := fun z => by
      obtain ⟨o, e⟩ := there D z
      rw [hD] at e
      cases e
    refine ⟨as ++ [D], by rw [List.map_append]; rfl, by rw [List.length_append, List.length_singleton]; omega, fun b o e => ?_, ?_, fun b hb => ?_, fun b hb => ?_, fun k a l e1 e2 => ?_⟩
    · have q := sm b o e
      rw [upd_ne (ne_of_none q hD)]
      exact q
    · rw [List.nodup_append]
      refine ⟨nd, by simp, fun x hx y hy => ?_⟩
      rw [List.mem_singleton.mp hy]
      intro z
      exact nD (by rw [← z]; exact hx)
    · rcases List.mem_append.mp hb with z | z
      · exact fr b z
      · rw [List.mem_singleton.mp z]
        exact sm.free hD
    · rcases List.mem_append.mp hb with z | z
      · obtain ⟨o, e⟩ := there b z
        exact ⟨o, by rw [upd_ne (ne_of_none e hD)]; exact e⟩
      · rw [List.mem_singleton.mp z]
        exact ⟨_, upd_same⟩
    · by_cases hk : k < as.length
      · rw [List.getElem?_append_left hk] at e1
        have q := hrow k a l e1 e2
        rw [upd_ne (ne_of_none q hD)]
        exact q
      · rw [List.getElem?_append_right (by omega)] at e1
        cases q : k - as.length with
        | zero =>
          rw [q] at e1
          have ea : D = a := by simpa using e1
          subst ea
          have ek : k = i := by omega
          subst ek
          rw [hy] at e2
          cases e2
          exact upd_same
        | succ n =>
          rw [q] at e1
          simp at e1
  · have e : i = xs.length := by omega
    subst e
    exact .inl ⟨W.st _ sm, hd as H3 sm (by omega) nd fr hrow⟩
section
variable {X : Cx} {K : PySem.W.Frag}
theorem ix_listK (hK : X.K = K) : IxR X (rIxL K) := hK ▸ ix_list
theorem sl_listK (hK : X.K = K) : SlR X (rSlL K) := hK ▸ sl_list
theorem call_lenK (hK : X.K = K) : CallR X (.builtin "len") (fun xs H Q => ∃ p ys, xs = [.ref p] ∧ (SqL K H p ys ∨ SqT K H p ys) ∧ Q (.int ys.length) H) := hK ▸ call_len_seq
theorem call_listK (hK : X.K = K) : CallR X (.type "list") (fun xs H Q => ∃ p ys, xs = [.ref p] ∧ (SqL K H p ys ∨ SqT K H p ys) ∧ ∀ l, H l = none → Q (.ref l) (upd H l (.lst ys))) := hK ▸ call_list_of
theorem call_isiK (hK : X.K = K) : CallR X (.builtin "isinstance") (rIsi K) := hK ▸ call_isi
theorem call_sumK (hK : X.K = K) (hc : X.calm = true) : CallR X (.builtin "sum") (fun xs H Q => ∃ (p : Addr) (ns : List Int), xs = [.ref p] ∧ SqL K H p (ns.map V.int) ∧ Q (.int ns.sum) H) := hK ▸ call_sum hc
theorem call_allK (hK : X.K = K) (hc : X.calm = true) : CallR X (.builtin "all") (fun xs H Q => ∃ (p : Addr) (bs : List Bool), xs = [.ref p] ∧ SqL K H p (bs.map V.bl) ∧ Q (.bl (bs.all id)) H) := hK ▸ call_all hc
theorem pi_listK {tg l : Expr} {tl : TE} (hK : X.K = K) (hl : PE X l tl) : PI X tg l (iList K tl) := hK ▸ pi_list hl
theorem pi_revK {tg a : Expr} {ta : TA} {p pos : Pos} (hK : X.K = K) (hg : Gl X "reversed") (hm : X.mg "reversed" = none) (ha : PA X [a] ta) (hs : starEach [a] X.env = [(false, eval a X.env)] := by rfl) (hca : X.calm = true := by rfl) : PI X tg (.Call (.Name "reversed" p) [a] [] pos) (iRev K ta) := hK ▸ pi_rev hg hm ha hs hca
theorem pe_fldK {e : Expr} {ta : TE} {f : Str} {pos : Pos} (hK : X.K = K) (he : PE X e ta) (hb : attributeBase e f X.env (eval e X.env) = eval e X.env) : PE X (.Attribute e f pos) (tFld K ta f) := hK ▸ pe_fld he hb
theorem ps_fldK {o value : Expr} {f : Str} {pos pos' : Pos} {ta tv : TE} (hK : X.K = K) (ha : PE X o ta) (hv : PE X value tv) (hs : swapsWith value (some (.Attribute o f pos')) pos.line X.env = pure false) : PS X (.Assign [.Attribute o f pos'] value pos) (sFld K ta tv f) := hK ▸ ps_fld ha hv hs
end
end L2
set_option Elab.async false
set_option linter.all false
set_option maxRecDepth 100000
set_option maxHeartbeats 4000000
namespace L2
open PySem PySem.Spec PyProof.Rows
def CtxOf (c : Option Addr) (e : Addr) (vs : Array Value) : Prop := match c with | none => vs[2]? = some .none | some r => vs[2]? = some (.ref r) ∧ r ≠ e
theorem CtxOf.one {c : Option Addr} {e : Addr} {vs : Array Value} {x : Value} (h : CtxOf c e vs) : CtxOf c e (vs.setIfInBounds 1 x) := by
  cases c with
  | none => show (vs.setIfInBounds 1 x)[2]? = _; rw [Array.getElem?_setIfInBounds_ne (by decide)]; exact h
  | some r => exact ⟨by rw [Array.getElem?_setIfInBounds_ne (by decide)]; exact h.1, h.2⟩
def TrC (h base : Heap) (e : Addr) (cls : Value) (c : Option Addr) (fl : Value) : Prop :=
  ∃ oe vs T oT ts, h.get? e = some oe ∧ (oe.cls = cls ∧ CtxOf c e vs) ∧ oe.data = .fields vs ∧ vs[1]? = some (.ref T) ∧ base.get? T = none ∧ T ≠ e ∧ h.get? T = some oT ∧ oT.data = .fields ts ∧ ts[3]? = some fl
def FlyC (base : Heap) (l : List Env) (e : Addr) (cls : Value) (c : Option Addr) (h : Heap) : Prop := base.StaysIn h ∧ base.get? e = none ∧ h.FunFrames base l ∧ TrC h base e cls c .none
def HldC (base : Heap) (l : List Env) (e : Addr) (cls : Value) (c : Option Addr) (L : Addr) (h : Heap) : Prop := base.StaysIn h ∧ base.get? e = none ∧ h.FunFrames base l ∧ TrC h base e cls c (rawInt L)
theorem FlyC.there {base h : Heap} {l : List Env} {e : Addr} {cls : Value} {c : Option Addr} (x : FlyC base l e cls c h) : ∃ ob, h.get? e = some ob ∧ ob.cls = cls :=
  let ⟨_, _, _, oe, _, _, _, _, he, hc, _⟩ := x
  ⟨oe, he, hc.1⟩
section
variable {M : Model} {A : Around} {E : Value → Shared → Prop} {s : Shared} {base : Heap} {env : Env} {outer l : List Env} {L e : Addr} {cls : Value} {c : Option Addr} {Q : Unit → Shared → Prop}
theorem entryC {oe : Obj} {vs : Array Value} {head : Value} {hadNext : Bool} (hfr : A.frames = some (env :: outer)) (hl : s.heap.FunFrames base (env :: outer)) (hf : env.frame = some L) (he : s.heap.get? e = some oe) (hkb : base.StaysIn s.heap) (hen : base.get? e = none)
    (hd : oe.data = .fields vs) (hsz : 1 < vs.size) (h2 : CtxOf c e vs)
    (h : ∀ h', HldC base (env :: outer) e oe.cls c L h' → s.heap.UpToSlots h' → Q () { s with heap := h' }) :
    wpAny M A (do let a ← frameOf env; let pl ← entryPlaceOf L hadNext; let b ← EntryCells.newEntry head a .none (rawInt L) .none pl; setField (.ref e) 1 b) Q E s := by
  have out : e ∉ (env :: outer).filterMap (·.frame) := fun hm => by
    obtain ⟨_, o, ho, hnf⟩ := hl.mem hm
    obtain rfl : oe = o := Option.some.inj (he.symm.trans ho)
    exact hnf vs hd
  refine wpAny_bind (wpAny_frameOf_fun hfr hl hf fun h1 hs1 => wpAny_bind (wpAny_entryPlaceOf fun pl hpl => ?_))
  unfold EntryCells.newEntry newFields
  refine wpAny_bind (wpAny_newObj_type ?_ (hpl.sizeOk5 _ _ _ _ _))
  have e1 : h1.get? e = some oe := (hs1.2.1 e out).trans he
  have b1 : base.StaysIn h1 := fun b o q => (hs1.2.1 b fun hm => by have z := (hl.mem hm).1; rw [q] at z; cases z).trans (hkb b o q)
  generalize hob : ({ cls := .type "traceback", dict := none, data := .fields ([head, .ref L, .none, rawInt L, .none] ++ (if pl.isEmpty then List.replicate 6 Value.none else pl)).toArray } : Obj) = ob
  have obd : ob.data = .fields ([head, .ref L, .none, rawInt L, .none] ++ (if pl.isEmpty then List.replicate 6 Value.none else pl)).toArray := by rw [← hob]
  have e2 : (h1.push ob).get? e = some oe := Heap.get?_push_of_some ob e1
  have ne : h1.objs.size ≠ e := Nat.ne_of_gt (Heap.lt_size e1)
  have keep : ∀ b o, b ≠ e → h1.get? b = some o → ((h1.push ob).update e (Obj.mapFields (·.setIfInBounds 1 (Value.ref h1.objs.size)))).get? b = some o := fun b o n q => by
    rw [Heap.get?_update_other _ _ (Ne.symm n)]; exact Heap.get?_push_of_some ob q
  have apart : ∀ b o, s.heap.get? b = some o → (∀ ws, o.data ≠ .fields ws) → b ≠ e := fun b o q n z => by
    subst z; obtain rfl : oe = o := Option.some.inj (he.symm.trans q); exact n vs hd
  refine wpAny_setField e2 hd hsz (h _ ?_ ?_)
  · have d3 := Obj.data_mapFields hd (·.setIfInBounds 1 (Value.ref h1.objs.size))
    have e3 := Heap.get?_update_self (Obj.mapFields (·.setIfInBounds 1 (Value.ref h1.objs.size))) e2 (Obj.isFreed_of_fields d3)
    have t3 : ((h1.push ob).update e (Obj.mapFields (·.setIfInBounds 1 (Value.ref h1.objs.size)))).get? h1.objs.size = some ob := by
      rw [Heap.get?_update_other _ _ (Ne.symm ne)]; exact Heap.get?_push_size h1 (by rw [← hob]; rfl)
    refine ⟨fun b o q => keep b o (fun z => by rw [z, hen] at q; cases q) (b1 b o q), hen, hl.of_keeps fun b o q n => ?_, _, _, h1.objs.size, ob, _, e3, ⟨Obj.cls_mapFields _ _, h2.one⟩, d3, by simp [hsz], b1.fresh, ne, t3, obd, ?_⟩
    · obtain ⟨sl, z⟩ := hs1.2.2 b o q
      exact ⟨_, keep b _ (apart b o q n) z, rfl⟩
    · first | (simp; done) | (rcases hpl with rfl | ⟨_, _, _, _, _, _, _, rfl⟩ <;> simp)
  · intro b o q n
    obtain ⟨sl, z⟩ := hs1.2.2 b o q
    exact ⟨sl, keep b _ (apart b o q n) z⟩
theorem noteNew {oe : Obj} {vs : Array Value} (hfr : A.frames = some (env :: outer)) (hl : s.heap.FunFrames base (env :: outer)) (hf : env.frame = some L) (he : s.heap.get? e = some oe) (hkb : base.StaysIn s.heap) (hen : base.get? e = none)
    (hd : oe.data = .fields vs) (h1 : vs[1]? = some .none) (h2 : CtxOf c e vs) (h : ∀ h', HldC base (env :: outer) e oe.cls c L h' → s.heap.UpToSlots h' → Q () { s with heap := h' }) : wpAny M A (noteFrame (.ref e) env) Q E s := by
  unfold noteFrame
  simp only [hf]
  refine wpAny_bind (wpAny_field he hd h1 ?_)
  rw [if_neg (by decide)]
  exact entryC hfr hl hf he hkb hen hd (Array.getElem?_eq_some_iff.mp h1).1 h2 h
theorem noteOn (hfr : A.frames = some (env :: outer)) (hf : env.frame = some L) (F : FlyC base (env :: outer) e cls c s.heap) (h : ∀ h', HldC base (env :: outer) e cls c L h' → s.heap.UpToSlots h' → Q () { s with heap := h' }) : wpAny M A (noteFrame (.ref e) env) Q E s := by
  obtain ⟨hkb, hen, hl, oe, vs, T, oT, ts, he, ⟨hc, h2⟩, hd, h1, nT, nTe, hT, dT, h3⟩ := F
  subst hc
  unfold noteFrame
  simp only [hf]
  refine wpAny_bind (wpAny_field he hd h1 ?_)
  rw [if_pos (show (Value.ref T != Value.none) = true by simp)]
  refine wpAny_bind (wpAny_field hT dT h3 ?_)
  rw [if_neg (show ¬ ((Value.none == rawInt L) = true) by simp [rawInt])]
  refine wpAny_bind (wpAny_setField hT dT (Array.getElem?_eq_some_iff.mp h3).1 ?_)
  have oth : ∀ b, b ≠ T → (s.heap.update T (Obj.mapFields (·.setIfInBounds 3 Value.none))).get? b = s.heap.get? b := fun b n => Heap.get?_update_other _ _ (Ne.symm n)
  have apart : ∀ b o, s.heap.get? b = some o → (∀ ws, o.data ≠ .fields ws) → b ≠ T := fun b o q n z => by
    subst z; obtain rfl : oT = o := Option.some.inj (hT.symm.trans q); exact n ts dT
  refine entryC (c := c) hfr (hl.of_keeps fun b o q n => ⟨o, (oth b (apart b o q n)).trans q, rfl⟩) hf ((oth e (Ne.symm nTe)).trans he) (fun b o q => (oth b fun z => ?_).trans (hkb b o q)) hen hd (Array.getElem?_eq_some_iff.mp h1).1 h2 fun h' x up => h h' x fun b o q n => up b o ((oth b (apart b o q n)).trans q) n
  rw [z, nT] at q; cases q
theorem landAt {fl : Value} (hkb : base.StaysIn s.heap) (hen : base.get? e = none) (hl : s.heap.FunFrames base l) (F : TrC s.heap base e cls c fl) (h : ∀ h', FlyC base l e cls c h' → s.heap.UpToSlots h' → Q () { s with heap := h' }) : wpAny M A (setFlight (.ref e) none) Q E s := by
  obtain ⟨oe, vs, T, oT, ts, he, hc, hd, h1, nT, nTe, hT, dT, h3⟩ := F
  have sz := (Array.getElem?_eq_some_iff.mp h3).1
  have oth : ∀ b, b ≠ T → (s.heap.update T (Obj.mapFields (·.setIfInBounds 3 ((none : Option Addr).elim Value.none fun f => rawInt f)))).get? b = s.heap.get? b := fun b n => Heap.get?_update_other _ _ (Ne.symm n)
  have apart : ∀ b o, s.heap.get? b = some o → (∀ ws, o.data ≠ .fields ws) → b ≠ T := fun b o q n z => by
    subst z; obtain rfl : oT = o := Option.some.inj (hT.symm.trans q); exact n ts dT
  unfold setFlight
  refine wpAny_bind (wpAny_field he hd h1 ?_)
  rw [if_pos (show (Value.ref T != Value.none) = true by simp)]
  refine wpAny_setField hT dT sz (h _ ⟨fun b o q => (oth b fun z => ?_).trans (hkb b o q), hen, hl.of_keeps fun b o q n => ⟨o, (oth b (apart b o q n)).trans q, rfl⟩, ?_⟩ fun b o q n => ⟨o.slots, (oth b (apart b o q n)).trans q⟩)
  · rw [z, nT] at q; cases q
  · exact ⟨oe, vs, T, _, _, (oth e (Ne.symm nTe)).trans he, hc, hd, h1, nT, nTe, Heap.get?_update_self _ hT (Obj.isFreed_of_fields (Obj.data_mapFields dT _)), Obj.data_mapFields dT _, by simp [sz]⟩
theorem flightAt {fl : Value} (hkb : base.StaysIn s.heap) (hen : base.get? e = none) (hl : s.heap.FunFrames base l) (F : TrC s.heap base e cls c fl) (h : ∀ h', HldC base l e cls c L h' → s.heap.UpToSlots h' → Q () { s with heap := h' }) : wpAny M A (setFlight (.ref e) (some L)) Q E s := by
  obtain ⟨oe, vs, T, oT, ts, he, hc, hd, h1, nT, nTe, hT, dT, h3⟩ := F
  have sz := (Array.getElem?_eq_some_iff.mp h3).1
  have oth : ∀ b, b ≠ T → (s.heap.update T (Obj.mapFields (·.setIfInBounds 3 ((some L : Option Addr).elim Value.none fun f => rawInt f)))).get? b = s.heap.get? b := fun b n => Heap.get?_update_other _ _ (Ne.symm n)
  have apart : ∀ b o, s.heap.get? b = some o → (∀ ws, o.data ≠ .fields ws) → b ≠ T := fun b o q n z => by
    subst z; obtain rfl : oT = o := Option.some.inj (hT.symm.trans q); exact n ts dT
  unfold setFlight
  refine wpAny_bind (wpAny_field he hd h1 ?_)
  rw [if_pos (show (Value.ref T != Value.none) = true by simp)]
  refine wpAny_setField hT dT sz (h _ ⟨fun b o q => (oth b fun z => ?_).trans (hkb b o q), hen, hl.of_keeps fun b o q n => ⟨o, (oth b (apart b o q n)).trans q, rfl⟩, ?_⟩ fun b o q n => ⟨o.slots, (oth b (apart b o q n)).trans q⟩)
  · rw [z, nT] at q; cases q
  · exact ⟨oe, vs, T, _, _, (oth e (Ne.symm nTe)).trans he, hc, hd, h1, nT, nTe, Heap.get?_update_self _ hT (Obj.isFreed_of_fields (Obj.data_mapFields dT _)), Obj.data_mapFields dT _, by simp [sz]⟩
theorem noteAgain (hf : env.frame = some L) (F : TrC s.heap base e cls c (rawInt L)) (h : Q () s) : wpAny M A (noteFrame (.ref e) env) Q E s := by
  obtain ⟨oe, vs, T, oT, ts, he, hc, hd, h1, nT, nTe, hT, dT, h3⟩ := F
  unfold noteFrame
  simp only [hf]
  refine wpAny_bind (wpAny_field he hd h1 ?_)
  rw [if_pos (show (Value.ref T != Value.none) = true by simp)]
  refine wpAny_bind (wpAny_field hT dT h3 ?_)
  rw [if_pos (show (rawInt L == rawInt L) = true by simp)]
  exact wpAny_pure h
theorem FlyC.out {base : Heap} {h : Heap} (F : FlyC base (env :: outer) e cls c h) : FlyC base outer e cls c h := ⟨F.1, F.2.1, F.2.2.1.2.2, F.2.2.2⟩
theorem leaveOn (hfr : A.frames = some (env :: outer)) (hf : env.frame = some L) (F : FlyC base (env :: outer) e cls c s.heap) (h : ∀ h', FlyC base outer e cls c h' → s.heap.UpToSlots h' → Q () { s with heap := h' }) : wpAny M A (leaving env (.ref e)) Q E s := by
  unfold leaving
  refine wpAny_bind (noteOn hfr hf F fun h1 x up => ?_)
  exact landAt (s := { s with heap := h1 }) x.1 x.2.1 x.2.2.1 x.2.2.2 fun h2 y up2 => h h2 y.out (up.trans up2)
theorem leaveNew {oe : Obj} {vs : Array Value} (hfr : A.frames = some (env :: outer)) (hl : s.heap.FunFrames base (env :: outer)) (hf : env.frame = some L) (he : s.heap.get? e = some oe) (hkb : base.StaysIn s.heap) (hen : base.get? e = none)
    (hd : oe.data = .fields vs) (h1 : vs[1]? = some .none) (h2 : CtxOf c e vs) (h : ∀ h', FlyC base outer e oe.cls c h' → s.heap.UpToSlots h' → Q () { s with heap := h' }) : wpAny M A (leaving env (.ref e)) Q E s := by
  unfold leaving
  refine wpAny_bind (noteNew hfr hl hf he hkb hen hd h1 h2 fun h1 x up => ?_)
  exact landAt (s := { s with heap := h1 }) x.1 x.2.1 x.2.2.1 x.2.2.2 fun h2 y up2 => h h2 y.out (up.trans up2)
def AnyC (base : Heap) (l : List Env) (e : Addr) (cls : Value) (c : Option Addr) (h : Heap) : Prop := base.StaysIn h ∧ base.get? e = none ∧ h.FunFrames base l ∧ ∃ fl, TrC h base e cls c fl
theorem HldC.any {base h : Heap} {l : List Env} {e L : Addr} {cls : Value} {c : Option Addr} (x : HldC base l e cls c L h) : AnyC base l e cls c h := ⟨x.1, x.2.1, x.2.2.1, _, x.2.2.2⟩
theorem noteAny (hfr : A.frames = some (env :: outer)) (hf : env.frame = some L) (F : AnyC base (env :: outer) e cls c s.heap) (h : ∀ h', HldC base (env :: outer) e cls c L h' → s.heap.UpToSlots h' → Q () { s with heap := h' }) : wpAny M A (noteFrame (.ref e) env) Q E s := by
  obtain ⟨hkb, hen, hl, fl, tr⟩ := F
  by_cases q : fl = rawInt L
  · subst q
    exact noteAgain hf tr (h s.heap ⟨hkb, hen, hl, tr⟩ (Heap.UpToSlots.refl _))
  obtain ⟨oe, vs, T, oT, ts, he, ⟨hc, h2⟩, hd, h1, nT, nTe, hT, dT, h3⟩ := tr
  subst hc
  unfold noteFrame
  simp only [hf]
  refine wpAny_bind (wpAny_field he hd h1 ?_)
  rw [if_pos (show (Value.ref T != Value.none) = true by simp)]
  refine wpAny_bind (wpAny_field hT dT h3 ?_)
  rw [if_neg (show ¬ ((fl == rawInt L) = true) from fun z => q (eq_of_beq z))]
  refine wpAny_bind (wpAny_setField hT dT (Array.getElem?_eq_some_iff.mp h3).1 ?_)
  have oth : ∀ b, b ≠ T → (s.heap.update T (Obj.mapFields (·.setIfInBounds 3 Value.none))).get? b = s.heap.get? b := fun b n => Heap.get?_update_other _ _ (Ne.symm n)
  have apart : ∀ b o, s.heap.get? b = some o → (∀ ws, o.data ≠ .fields ws) → b ≠ T := fun b o q n z => by
    subst z; obtain rfl : oT = o := Option.some.inj (hT.symm.trans q); exact n ts dT
  refine entryC (c := c) hfr (hl.of_keeps fun b o q n => ⟨o, (oth b (apart b o q n)).trans q, rfl⟩) hf ((oth e (Ne.symm nTe)).trans he) (fun b o q => (oth b fun z => ?_).trans (hkb b o q)) hen hd (Array.getElem?_eq_some_iff.mp h1).1 h2 fun h' x up => h h' x fun b o q n => up b o ((oth b (apart b o q n)).trans q) n
  rw [z, nT] at q; cases q
theorem leaveAny (hfr : A.frames = some (env :: outer)) (hf : env.frame = some L) (F : AnyC base (env :: outer) e cls c s.heap) (h : ∀ h', FlyC base outer e cls c h' → s.heap.UpToSlots h' → Q () { s with heap := h' }) : wpAny M A (leaving env (.ref e)) Q E s := by
  unfold leaving
  refine wpAny_bind (noteAny hfr hf F fun h1 x up => ?_)
  exact landAt (s := { s with heap := h1 }) x.1 x.2.1 x.2.2.1 x.2.2.2 fun h2 y up2 => h h2 y.out (up.trans up2)
theorem passAny {f : Option Addr} (F : AnyC base l e cls c s.heap) (h : ∀ h', AnyC base l e cls c h' → s.heap.UpToSlots h' → Q () { s with heap := h' }) : wpAny M A (setFlight (.ref e) f) Q E s := by
  obtain ⟨hkb, hen, hl, fl, tr⟩ := F
  cases f with
  | none => exact landAt hkb hen hl tr fun h' x up => h h' ⟨x.1, x.2.1, x.2.2.1, _, x.2.2.2⟩ up
  | some L => exact flightAt hkb hen hl tr fun h' x up => h h' x.any up
end
end L2
set_option Elab.async false
set_option linter.all false
set_option maxRecDepth 100000
set_option maxHeartbeats 4000000
namespace L2
open PySem PySem.Spec PyProof.Rows
structure XB (P : Program) (w : World) (outer : List Env) (H : Hp) (s : Shared) (B : Heap) (H' : Hp) : Prop where
  hok : HOk P w H' B
  keep : ∀ b o, s.heap.get? b = some o → H b = none → b ∉ frs outer → B.get? b = some o
  free : ∀ b o, s.heap.get? b = some o → H b = none → H' b = none
  there : ∀ b o, s.heap.get? b = some o → b ∉ frs outer → ∃ o', B.get? b = some o'
  tups : ∀ b xs, H b = some (.tup xs) → H' b = some (.tup xs)
  frzs : ∀ b o u, H b = some (.frz o u) → H' b = some (.frz o u)
  tbls : ∀ b ps, H b = some (.tbl ps) → ∃ more, H' b = some (.tbl (ps ++ more))
def SlotsUp (outer : List Env) (H : Hp) (h h' : Heap) : Prop := ∀ b o, h.get? b = some o → H b = none → b ∈ frs outer → ∃ sl, h'.get? b = some { o with slots := sl }
theorem XB.un {P : Program} {w : World} {outer : List Env} {H H' : Hp} {s : Shared} {B h : Heap} (x : XB P w outer H s B H') (hB : B.StaysIn h) (hs : SlotsUp outer H s.heap h) (hf : ∀ b ∈ frs outer, H b = none) : Un (frs outer) [] H H' s.heap h where
  keep := fun b o e n hb _ => hB b o (x.keep b o e n hb)
  slot := fun b o e n hb _ => hs b o e n hb
  free := fun b o e n _ => x.free b o e n
  there := fun b o e _ => by
    by_cases hb : b ∈ frs outer
    · obtain ⟨sl, q⟩ := hs b o e (hf b hb) hb
      exact ⟨_, q⟩
    · obtain ⟨o', q⟩ := x.there b o e hb
      exact ⟨o', hB b o' q⟩
  tups := x.tups
  frzs := x.frzs
  tbls := x.tbls
def CX1 (P : Program) (w : World) : CXT := fun outer H s E ev s' => ∃ (e : Addr) (cls : Value) (c : Option Addr) (B : Heap) (H' : Hp), ev = .ref e ∧ s'.os = s.os ∧ AllBare s'.gens ∧ XB P w outer H s B H' ∧ SlotsUp outer H s.heap s'.heap ∧ FlyC B outer e cls c s'.heap ∧ E cls c H'
theorem passE0 {P : Program} {w : World} {X : Cx} : Passes (CX1 P w) X E0 := fun _ _ _ _ _ _ _ ⟨_, _, _, _, _, _, _, _, _, _, _, h⟩ => h.elim
section
variable {P : Program} {w : World} {K : PySem.W.Frag} {mg : Str → Option Value} {base : Heap} {N : List Str} {qual : Str} {scope : Scope} {f : Addr} {cd : Value} {A : Around} {outer : List Env} {s₀ : Shared} {H₀ : Hp} {E : XK}
theorem passX : Passes (CX1 P w) (cxOf (CX1 P w) P w K mg base N qual scope f cd A outer s₀ H₀ E) E := by
  intro pins σ H s ev s' I h
  obtain ⟨e, cls, a0, B, H', rfl, os, bare, xb, sl, fl, q⟩ := h
  have ne : ∀ b o, s₀.heap.get? b = some o → b ≠ s₀.heap.objs.size := fun b o e => Nat.ne_of_lt (Heap.lt_size e)
  have nf : ∀ b, b ∉ frs outer → b ≠ s₀.heap.objs.size → b ∉ frs (envOfC qual scope s₀.heap.objs.size f cd :: outer) := fun b h1 h2 z => by
    rcases List.mem_cons.mp (I.stkSub b z) with y | y
    · exact h2 y
    · exact h1 y
  refine leaveOn I.ok.frames rfl fl fun h'' fl' up => ?_
  refine ⟨e, cls, a0, B, H', rfl, os.trans I.os, bare, ⟨xb.hok, fun b o q n hb => ?_, fun b o q n => ?_, fun b o q hb => ?_, fun b xs q => xb.tups b xs (I.base.tups b xs q), fun b o u q => xb.frzs b o u (I.base.frzs b o u q), fun b ps q => ?_⟩, fun b o q n hb => ?_, fl', q⟩
  · exact xb.keep b o (I.base.keep b o q n hb (by intro z; cases z)) (I.base.free b o q n (by intro z; cases z)) (nf b hb (ne b o q))
  · obtain ⟨o', q'⟩ := I.base.there b o q (by intro z; cases z)
    exact xb.free b o' q' (I.base.free b o q n (by intro z; cases z))
  · obtain ⟨o', q'⟩ := I.base.there b o q (by intro z; cases z)
    exact xb.there b o' q' (nf b hb (ne b o q))
  · obtain ⟨m1, q1⟩ := I.base.tbls b ps q
    obtain ⟨m2, q2⟩ := xb.tbls b _ q1
    exact ⟨m1 ++ m2, by rw [q2, Array.append_assoc]⟩
  · obtain ⟨s1, q1⟩ := I.base.slot b o q n hb (by intro z; cases z)
    obtain ⟨s2, q2⟩ := sl b _ q1 (I.base.free b o q n (by intro z; cases z)) (by
      show b ∈ frs (envOfC qual scope s₀.heap.objs.size f cd :: outer)
      exact List.mem_cons_of_mem _ hb)
    obtain ⟨_, o2, ho2, hd2⟩ := I.ok.funs.mem hb
    change s₀.heap.get? b = some o2 at ho2
    rw [q] at ho2
    cases ho2
    obtain ⟨s3, q3⟩ := up b _ q2 hd2
    exact ⟨s3, q3⟩
theorem raisesX {pins : List (Addr × Obj)} {σ : St} {H : Hp} {s : Shared} {h' : Heap} {e : Addr} {cls : Value} {vs : List Value} (I : Inv (cxOf (CX1 P w) P w K mg base N qual scope f cd A outer s₀ H₀ E) pins σ H s)
    (hx : Heap.MadeExcOf s.heap h' e cls vs) (q : E cls none H) : (cxOf (CX1 P w) P w K mg base N qual scope f cd A outer s₀ H₀ E).xe (.ref e) { s with heap := h' } := by
  have ne : ∀ b o, s₀.heap.get? b = some o → b ≠ s₀.heap.objs.size := fun b o e => Nat.ne_of_lt (Heap.lt_size e)
  have nf : ∀ b, b ∉ frs outer → b ≠ s₀.heap.objs.size → b ∉ frs (envOfC qual scope s₀.heap.objs.size f cd :: outer) := fun b h1 h2 z => by
    rcases List.mem_cons.mp (I.stkSub b z) with y | y
    · exact h2 y
    · exact h1 y
  have tk : ∀ b o, H b = some o → b ∉ frs (envOfC qual scope s₀.heap.objs.size f cd :: outer) := fun b o e z => by
    rw [I.stkFree b z] at e
    cases e
  have hin : ∀ env ∈ (envOfC qual scope s₀.heap.objs.size f cd :: outer), ∀ b, env.frame = some b → b ∈ frs (envOfC qual scope s₀.heap.objs.size f cd :: outer) := fun env he b hb => List.mem_filterMap.mpr ⟨env, he, hb⟩
  show wpAny (model P w) (A.deeper (envOfC qual scope s₀.heap.objs.size f cd)) (leaving (envOfC qual scope s₀.heap.objs.size f cd) (.ref e)) (fun _ s'' => CX1 P w outer H₀ s₀ E (.ref e) s'') (fun e' s'' => CX1 P w outer H₀ s₀ E e' s'') { s with heap := h' }
  obtain ⟨tp, hee, htn, htt⟩ := hx.there
  have hst := PySem.W.funFrames_hide I.stack hin
  have hk : (PySem.W.hideAll s.heap (frs (envOfC qual scope s₀.heap.objs.size f cd :: outer))).StaysIn s.heap := fun b o z => PySem.W.of_hideAll _ z
  have hnew : (PySem.W.hideAll s.heap (frs (envOfC qual scope s₀.heap.objs.size f cd :: outer))).get? e = none := by
    cases z : (PySem.W.hideAll s.heap (frs (envOfC qual scope s₀.heap.objs.size f cd :: outer))).get? e with
    | none => rfl
    | some o' => have y := hk e o' z; rw [hx.new] at y; cases y
  refine leaveNew (s := { s with heap := h' }) (c := none) I.ok.frames (hst.of_keeps fun b o z _ => ⟨o, hx.keeps b o z, rfl⟩) rfl hee (fun b o z => hx.keeps b o (hk b o z)) hnew rfl rfl rfl fun h'' fl up => ?_
  have Bget : ∀ b o, s.heap.get? b = some o → b ∉ frs (envOfC qual scope s₀.heap.objs.size f cd :: outer) → (PySem.W.hideAll s.heap (frs (envOfC qual scope s₀.heap.objs.size f cd :: outer))).get? b = some o := fun b o z hb => PySem.W.hideAll_get _ z hb
  refine ⟨e, cls, none, _, H, rfl, I.os, I.bare, ⟨fun a o z => ?_, fun b o z n hb => ?_, fun b o z n => I.base.free b o z n (by intro y; cases y), fun b o z hb => ?_, I.base.tups, I.base.frzs, I.base.tbls⟩, fun b o z n hb => ?_, fl, q⟩
  · refine (I.hok a o z).stay (fun c v hc y => Bget c v y ?_) (fun _ y => y) fun _ _ y => y
    rcases hc with y' | y'
    · rw [y']; exact tk a o z
    · exact tk c _ y'
  · exact Bget b o (I.base.keep b o z n hb (by intro y; cases y)) (nf b hb (ne b o z))
  · obtain ⟨o', z'⟩ := I.base.there b o z (by intro y; cases y)
    exact ⟨o', Bget b o' z' (nf b hb (ne b o z))⟩
  · obtain ⟨s1, q1⟩ := I.base.slot b o z n hb (by intro y; cases y)
    obtain ⟨_, o2, ho2, hd2⟩ := I.ok.funs.mem hb
    change s₀.heap.get? b = some o2 at ho2
    rw [z] at ho2
    cases ho2
    obtain ⟨s3, q3⟩ := up b _ (hx.keeps b _ q1) hd2
    exact ⟨s3, q3⟩
end
theorem own_obj {K : PySem.W.Frag} {h : Heap} {C : Addr} {bmB : List Value} {newId : String} (X : K.In h) (q : PySem.W.excIn K C bmB newId = true) :
    ∃ bm N nm qn bs hdct sn sub ab col dd k0 k1 k2 k3 k5 mN, h.get? C = some (excClassObj nm qn C N bs bm hdct sn sub ab col dd k0 k1 k2 k3 k5 newId) ∧ h.Ns N mN ∧ mN "__init__" = none ∧ OwnTail h bmB bm := by
  unfold PySem.W.excIn at q
  split at q
  · rename_i dd cd sl ho
    split at q
    · rename_i C' bm k0 k1 k2 k3 n k5 hm hs
      simp only [Bool.and_eq_true, beq_iff_eq, Bool.not_eq_true'] at q
      obtain ⟨⟨⟨⟨⟨e1, e2⟩, hdel⟩, ht⟩, hok⟩, hni⟩ := q
      subst e1 e2
      obtain ⟨nm, bs, mro, ns, qn, hd, sn, sub, ab, col, del⟩ := cd
      dsimp only at hm hdel hok hni
      subst hm hdel
      have es : sl = #[k0, k1, k2, k3, some (.builtin n), k5] := by
        obtain ⟨l⟩ := sl
        simp only at hs
        rw [hs]
      subst es
      exact ⟨bm, ns, nm, qn, bs, hd, sn, sub, ab, col, dd, k0, k1, k2, k3, k5, _, X _ _ ho, .of_isNs (PySem.W.isNs_of_in X hok), PySem.W.nsMap_none_of_in X hok hni, PySem.W.tail_of_in X ht⟩
    · cases q
  · cases q
abbrev vErr : List Value := [.type "ValueError", .type "Exception", .type "BaseException", .type "object"]
structure XCls (K : PySem.W.Frag) (C : Addr) : Prop where
  ex : PySem.W.excIn K C vErr "ValueError.__new__" = true
def Raises (X : Cx) (E : XK) : Prop := ∀ (pins : List (Addr × Obj)) (σ : St) (H : Hp) (s : Shared) (h' : Heap) (e : Addr) (cls : Value) (vs : List Value), Inv X pins σ H s → Heap.MadeExcOf s.heap h' e cls vs → E cls none H → X.xe (.ref e) { s with heap := h' }
def tRaise (C : Addr) (E : XK) (t : TA) : TS := fun _ σ H => t σ H fun vs H1 => vs.length ≤ sizeLine ∧ E (.ref C) none H1
theorem ps_raise {X : Cx} {E : XK} {x : Str} {C : Addr} {e₀ : Expr} {rest : List Expr} {t : TA} {np cpos pos : Pos} (hR : Raises X E) (hc : X.calm = true) (hg : Gl X x) (hm : X.mg x = some (.ref C)) (hC : XCls X.K C) (ha : PA X (e₀ :: rest) t)
    (hd : (x == ("__debug__" : Str)) = false := by decide) (he : starEach (e₀ :: rest) X.env = (false, eval e₀ X.env) :: starEach rest X.env := by rfl) (hpl : (backTo cpos (starEach rest X.env)).any (·.1) = false := by rfl) :
    PS X (.Raise (some (.Call (.Name x np) (e₀ :: rest) [] cpos)) none pos) (tRaise C E t) := by
  intro pins s σ H D I h
  obtain ⟨tl, N, nm, q, bs, hdct, sn, sub, ab, col, dd, k0, k1, k2, k3, k5, mN, hCo, hN, hni, T⟩ := own_obj I.mod.kin hC.ex
  refine wpAny_Raise_call_subT (C := C) (nm := nm) (q := q) (N := N) (bs := bs) (bm := tl) (hdct := hdct) (sn := sn) (sub := sub) (ab := ab) (col := col) (dd := dd) (k0 := k0) (k1 := k1) (k2 := k2) (k3 := k3) (k5 := k5)
    PySem.F.excBase_ValueError (mN := mN) (T.hasType PySem.F.excBase_ValueError.hasBase) (I.ok.hd hc) (by rw [he]; show (false || (backTo cpos (starEach rest X.env)).any (·.1)) = false; rw [hpl]; rfl) hni (ld_glob I hg hm ⟨rfl, ?_⟩ hd)
  have hA := ha cpos pins s σ H _ I h
  rw [he] at hA ⊢
  refine Calls.evalArgs_plain (thn hA fun us s2 ⟨vs, H1, I1, rv, hz, q⟩ => ?_)
  exact ⟨rfl, by rw [← rv.length]; exact hz, I1.bk _ _ hCo, hN.keeps I1.bk, T.keeps I1.bk, fun h' e hx => hR pins σ H1 s2 h' e _ _ I1 hx q⟩
def PJ (X : Cx) (parts : List Expr) (c : St → Hp → Prop) : Prop :=
  ∀ (pins : List (Addr × Obj)) (s : Shared) (σ : St) (H : Hp) (acc : Str) (Q : Str → Shared → Prop), Inv X pins σ H s → c σ H → acc.length + 20000 * parts.length ≤ 1000000 → (∀ x s', x.length ≤ 1000000 → Inv X pins σ H s' → Q x s') → Joins (model X.prog X.w) X.A X.xe (evalEach parts X.env) acc Q s
section
variable {X : Cx}
theorem pj_nil : PJ X [] (fun _ _ => True) := fun _ _ _ _ acc _ I _ hz h => h acc _ (by simp at hz; omega) I
theorem pj_str {x : Str} {j : Nat} {pos : Pos} {es : List Expr} {c : St → Hp → Prop} (hx : x.length ≤ 20000) (hr : PJ X es c) : PJ X (.Constant (.str x) j pos :: es) c := by
  intro pins s σ H acc Q I hc hz h
  simp only [List.length_cons] at hz
  show wpAny _ _ (eval (.Constant (.str x) j pos) X.env) _ _ s
  refine Calls.Constant_str ⟨x, _, rfl, ?_, hr pins _ σ H _ Q (I.tok _) hc ?_ h⟩
  · rw [strLen_append]
    have := sizeLine_eq
    omega
  · rw [strLen_append]
    omega
theorem pj_int {e : Expr} {pos : Pos} {es : List Expr} {te : TE} {c : St → Hp → Prop} (he : PE X e te) (hr : PJ X es c) : PJ X (.FormattedValue e (-1) none pos :: es) (fun σ H => te σ H fun v H1 => ∃ i : Int, v = .int i ∧ i.natAbs.log2 < 1920 ∧ H1 = H ∧ c σ H) := by
  intro pins s σ H acc Q I hc hz h
  simp only [List.length_cons] at hz
  show wpAny _ _ (eval (.FormattedValue e (-1) none pos) X.env) _ _ s
  refine wpAny_FormattedValue_plain (thn (he pins s σ H _ I hc) fun v s1 ⟨x, H1, I1, r1, i, ex, hl, eH, q⟩ => ?_)
  subst ex eH
  obtain ⟨t, rfl⟩ := r1
  have hlen : (Str.ofString (toString i)).length ≤ 20000 := by
    have e := int_text_length_le (k := 1920) (by decide) hl
    rw [PySem.ofString_length]
    omega
  refine wpAny_formatField_int hl ⟨_, _, rfl, ?_, hr pins _ σ H1 _ Q ((I1.tok _).tok _) q ?_ h⟩
  · rw [strLen_append]
    have := sizeLine_eq
    omega
  · rw [strLen_append]
    omega
def tFs (c : St → Hp → Prop) : TE := fun σ H Q => c σ H ∧ ∀ x : Str, Q (.str x) H
theorem pe_fs {v₁ v₂ : Expr} {rest : List Expr} {pos : Pos} {c : St → Hp → Prop} (h : PJ X (v₁ :: v₂ :: rest) c) (hn : (v₁ :: v₂ :: rest).length ≤ 40) : PE X (.JoinedStr (v₁ :: v₂ :: rest) pos) (tFs c) := by
  intro pins s σ H Q I ⟨hc, q⟩
  refine wpAny_JoinedStr (h pins s σ H _ _ I hc ?_ fun x s' hx I' => ⟨?_, .str x, H, I'.tok _, ⟨_, rfl⟩, q x⟩)
  · show 0 + _ ≤ _
    omega
  · have := sizeLine_eq
    omega
end
def Fl (X : Cx) (pins : List (Addr × Obj)) (σ : St) (e : Addr) (cls : Value) (c : Option Addr) (H : Hp) (s : Shared) : Prop :=
  ∃ (s0 : Shared) (H0 : Hp) (B : Heap), Inv X pins σ H0 s0 ∧ s.os = s0.os ∧ AllBare s.gens ∧ XB X.prog X.w X.stack H0 s0 B H ∧ SlotsUp X.stack H0 s0.heap s.heap ∧ FlyC B X.stack e cls c s.heap
section
variable {X : Cx} {pins : List (Addr × Obj)} {σ : St} {H : Hp} {s : Shared} {e : Addr} {cls : Value} {c : Option Addr}
theorem Fl.inv (F : Fl X pins σ e cls c H s) : Inv X pins σ H s := by
  obtain ⟨s0, H0, B, I, os, bare, xb, sl, fl⟩ := F
  exact I.call' (ch := []) os (xb.un fl.1 sl I.stkFree) (xb.hok.kept fl.1) bare fun b z => by cases z
theorem Fl.there (F : Fl X pins σ e cls c H s) : ∃ o, s.heap.get? e = some o ∧ o.cls = cls := by
  obtain ⟨s0, H0, B, I, os, bare, xb, sl, fl⟩ := F
  exact fl.there
theorem SlotsUp.trans {outer : List Env} {H : Hp} {h h1 h2 b : Heap} (x : SlotsUp outer H h h1) (hf : h.FunFrames b outer) (up : h1.UpToSlots h2) : SlotsUp outer H h h2 := fun c o q n hc => by
  obtain ⟨s1, q1⟩ := x c o q n hc
  obtain ⟨_, o2, ho2, hd2⟩ := hf.mem hc
  rw [q] at ho2
  cases ho2
  obtain ⟨s2, q2⟩ := up c _ q1 hd2
  exact ⟨s2, q2⟩
theorem Fl.land {M : Model} {A : Around} {E : Value → Shared → Prop} {Q : Shared → Prop} (F : Fl X pins σ e cls c H s) (hA : A.frames = some X.stack) (hst : X.stack = X.env :: X.outer) (hfr : X.env.frame = some X.env.locals) (h : ∀ s', Fl X pins σ e cls c H s' → Q s') :
    wpAny M A (noteFrame (.ref e) X.env) (fun _ s2 => wpAny M A (setFlight (.ref e) none) (fun _ s3 => Q s3) E s2) E s := by
  obtain ⟨s0, H0, B, I, os, bare, xb, sl, fl⟩ := F
  rw [hst] at fl hA
  refine noteOn hA hfr fl fun h4 held up4 => ?_
  refine landAt (s := { s with heap := h4 }) held.1 held.2.1 held.2.2.1 held.2.2.2 fun h5 fl5 up5 => ?_
  refine h _ ⟨s0, H0, B, I, os, bare, xb, (sl.trans I.stack up4).trans I.stack up5, ?_⟩
  rw [hst]
  exact fl5
theorem Fl.again {M : Model} {A : Around} {E : Value → Shared → Prop} {Q : Unit → Shared → Prop} (F : Fl X pins σ e cls c H s) (h : ∀ s', Fl X pins σ e cls c H s' → Q () s') : wpAny M A (setFlight (.ref e) none) Q E s := by
  obtain ⟨s0, H0, B, I, os, bare, xb, sl, fl⟩ := F
  refine landAt fl.1 fl.2.1 fl.2.2.1 fl.2.2.2 fun h6 fl6 up6 => ?_
  exact h _ ⟨s0, H0, B, I, os, bare, xb, sl.trans I.stack up6, fl6⟩
end
def PX (X : Cx) (ex : Expr) (t : XK → TE) : Prop :=
  ∀ (xe : Value → Shared → Prop) (E : XK) (pins : List (Addr × Obj)) (s : Shared) (σ : St) (H : Hp) (Q : VK), Inv X pins σ H s → t E σ H Q → (∀ e cls c H' s', Fl X pins σ e cls c H' s' → E cls c H' → xe (.ref e) s') →
    wpAny (model X.prog X.w) X.A (eval ex X.env) (EP X pins σ Q) xe s
theorem PA.any {X : Cx} {es : List Expr} {t : TA} (h : PA X.nox es t) {pos : Pos} {pins : List (Addr × Obj)} {s : Shared} {σ : St} {H : Hp} {Q : List V → Hp → Prop} (I : Inv X pins σ H s) (q : t σ H Q) (xe : Value → Shared → Prop) :
    wpAny (model X.prog X.w) X.A (spliced (backTo pos (starEach es X.env))) (AP X pins σ Q) xe s :=
  wpAny_mono (h pos pins s σ H Q (I.wish _) q) (fun us s' ⟨vs, H', I', r⟩ => ⟨vs, H', I'.unwish, r⟩) fun _ _ z => z.elim
section
variable {X : Cx} {k : Nat} {f C : Addr} {fd : FuncData} {ps : List Str} {sp : Sp} {x m : Str} {p pos apos : Pos} {e o : Expr} {es : List Expr} {ta : TE} {t : TA}
theorem runX {pins : List (Addr × Obj)} {σ : St} {H : Hp} {s : Shared} {Q : VK} {us : List Value} {vs : List V} {E : XK} {xe : Value → Shared → Prop} (F : FnOk X.prog X.w X.K X.mg X.base (CX1 X.prog X.w) k f fd ps sp) (hr : Room k X.A) (hb : Binds X.K fd ps [])
    (I : Inv X pins σ H s) (r : Vals vs us) (h : sp vs H Q E) (hx : ∀ e cls c H' s', Fl X pins σ e cls c H' s' → E cls c H' → xe (.ref e) s') : wpAny (model X.prog X.w) X.A (call (.ref f) us) (EP X pins σ Q) xe s := by
  have hl : (us ++ []).length = ps.length := by rw [List.append_nil, ← r.length]; exact F.len _ _ _ _ h
  have hb' := hb s us I.kIn hl
  rw [List.append_nil] at hb'
  refine wpAny_call (codeAny_mono (F.run X.A X.stack s H ⟨us, []⟩ us vs Q E hr I.env0 hb' r h) fun r s' hq => ?_)
  cases r with
  | error e =>
    obtain ⟨e', cls, a0, B, H', rfl, os, bare, xb, sl, fl, q⟩ := hq
    exact hx e' cls a0 H' s' ⟨s, H, B, I, os, bare, xb, sl, fl⟩ q
  | ok fl =>
    cases fl with
    | ret u => exact I.after hq
    | next => exact False.elim hq
    | brk => exact False.elim hq
    | cont => exact False.elim hq
theorem px_call (F : FnOk X.prog X.w X.K X.mg X.base (CX1 X.prog X.w) k f fd ps sp) (hr : Room k X.A) (hg : Gl X x) (hm : X.mg x = some (.ref f)) (hk : PySem.W.keepIn X.K (.ref f) = true) (hb : Binds X.K fd ps [])
    (ha : PA X.nox (e :: es) t) (hdb : (x == ("__debug__" : Str)) = false := by decide) (he : starEach (e :: es) X.env = (false, eval e X.env) :: starEach es X.env := by rfl) (hpl : (backTo pos (starEach es X.env)).any (·.1) = false := by rfl) :
    PX X (.Call (.Name x p) (e :: es) [] pos) (fun E σ H Q => t σ H fun vs H1 => sp vs H1 Q E) := by
  intro xe E pins s σ H Q I h hx
  refine wpAny_Call_Name_kw (ld_glob I hg hm ?_ hdb)
  refine PySem.W.callWith_K (h₀ := X.base) I.ok.mod.kin hk (thn (ha.any I h xe) fun us s1 ⟨vs, H1, I1, r, q⟩ => ⟨I1.kIn, ?_⟩) he hpl
  exact runX F hr hb I1 r q hx
end
theorem match_other {M : Model} {A : Around} {E : Value → Shared → Prop} {K : PySem.W.Frag} {s : Shared} {e C D : Addr} {o : Obj} {b : Bool} {Q : Bool → Shared → Prop} (X : K.In s.heap) (hD : D ≠ C) (q1 : PySem.W.kitOne K (.ref D) (.ref C) = some b)
    (q2 : PySem.W.kitOne K (.ref C) (.type "BaseException") = some true) (he : s.heap.get? e = some o) (hc : o.cls = .ref D) (hq : Q b s) : wpAny M A (excMatches (.ref e) (.ref C)) Q E s := by
  have n1 : ((Value.ref D == Value.ref C) = true) = False := by
    simp only [eq_iff_iff, iff_false]
    intro z
    exact hD (by have := eq_of_beq z; injection this)
  have n2 : ((Value.ref C == Value.type "BaseException") = true) = False := by
    simp only [eq_iff_iff, iff_false]
    intro z
    have := eq_of_beq z
    cases this
  unfold PySem.W.kitOne at q1 q2
  rw [if_neg (by rw [n1]; exact not_false)] at q1
  rw [if_neg (by rw [n2]; exact not_false)] at q2
  obtain ⟨l1, l2, l3⟩ := PySem.W.kit_cls (M := M) X q1
  obtain ⟨_, _, l4⟩ := PySem.W.kit_cls (M := M) X q2
  have kk : ∀ b o, s.heap.get? b = some o → s.heap.get? b = some o := fun _ _ z => z
  unfold excMatches isInstance isExcClass
  refine wpAny_bind (wpAny_bind (l1 _ _ _ _ kk ?_))
  refine wpAny_of_eq tc_notTuple ?_
  try simp only [Bool.false_eq_true, if_false]
  refine wpAny_bind (wpAny_pure ?_)
  simp only [List.forIn_cons, List.forIn_nil]
  refine wpAny_bind (wpAny_bind (wpAny_bind (wpAny_bind (l2 _ _ _ _ kk ?_))))
  simp only [if_true]
  refine l4 _ _ _ _ kk ?_
  simp only [Bool.not_true, Bool.false_eq_true, if_false]
  refine wpAny_pure (wpAny_pure ?_)
  refine wpAny_bind (wpAny_typeOf_ref he ?_)
  rw [hc]
  refine wpAny_bind (wpAny_bind (wpAny_bind (l3 _ _ _ _ kk ?_)))
  cases b with
  | true => exact wpAny_pure (wpAny_pure (wpAny_pure hq))
  | false => exact wpAny_pure (wpAny_pure (wpAny_pure hq))
section
variable {X : Cx} {k : Nat} {f C : Addr} {fd : FuncData} {ps : List Str} {sp : Sp} {x m : Str} {p pos apos : Pos} {e o : Expr} {es : List Expr} {ta : TE} {t : TA}
end
def XA (X : Cx) (e : Addr) : Cx := { X with A := X.A.mark (some (.ref e)), calm := false, mild := false, xe := fun _ _ => False }
section
variable {X : Cx} {pins : List (Addr × Obj)} {σ : St} {H : Hp} {s : Shared}
theorem Cx.Ok.caught (ok : X.Ok) (e : Addr) : (XA X e).Ok :=
  ⟨ok.mod, ok.kind, ok.glob, ok.blt, ok.above, ok.inj, ok.has, ok.cab, (fun z => by cases z), (fun z => by cases z), ok.frames, ok.stk, ok.exf, ok.bs, ok.bsz, ok.noex, ok.exfs, ok.funs, ok.frf⟩
theorem Inv.caught (I : Inv X pins σ H s) (e : Addr) : Inv (XA X e) pins σ H s := ⟨I.ok.caught e, I.os, I.bare, I.base, I.loc, I.cell, I.free, I.freeC, I.pin, I.hok, I.len⟩
theorem Inv.uncaught {e : Addr} (ok : X.Ok) (I : Inv (XA X e) pins σ H s) : Inv X pins σ H s := ⟨ok, I.os, I.bare, I.base, I.loc, I.cell, I.free, I.freeC, I.pin, I.hok, I.len⟩
theorem SP.uncaught {e : Addr} {D : Ends} {f : Flow} (ok : X.Ok) (h : SP (XA X e) pins D f s) : SP X pins D f s := by
  cases f with
  | next => obtain ⟨σ', H', I, q⟩ := h; exact ⟨σ', H', I.uncaught ok, q⟩
  | brk => obtain ⟨σ', H', I, q⟩ := h; exact ⟨σ', H', I.uncaught ok, q⟩
  | cont => obtain ⟨σ', H', I, q⟩ := h; exact ⟨σ', H', I.uncaught ok, q⟩
  | ret u => obtain ⟨v, σ', H', I, r, q⟩ := h; exact ⟨v, σ', H', I.uncaught ok, r, q⟩
end
def PH (X : Cx) (hs : List ExceptHandler) (t : Value → Option Addr → TS) : Prop :=
  ∀ (e : Addr) (cls : Value) (c : Option Addr) (pins : List (Addr × Obj)) (s : Shared) (σ : St) (H : Hp) (D : Ends), Fl X pins σ e cls c H s → t cls c D σ H → wpAny (model X.prog X.w) X.A (handleBy (.ref e) X.env hs) (SP X pins D) X.xe s
section
variable {X : Cx} {x : Str} {C : Addr} {np pos : Pos} {b₀ : Stmt} {suite : List Stmt} {rest : List ExceptHandler} {tb : TS} {tr : Value → Option Addr → TS}
theorem ph_nil : PH X [] (fun _ _ _ _ _ => False) := fun _ _ _ _ _ _ _ _ _ h => h.elim
end
def tTryA (i : Nat) (t : XK → TE) (th : Value → Option Addr → TS) : TS := fun D σ H => ∃ E : XK, (t E σ H fun v H1 => D.nx (σ.set i (some v)) H1) ∧ ∀ cls c H', E cls c H' → th cls c D σ H'
section
variable {X : Cx} {ex : Expr} {t : XK → TE} {th : Value → Option Addr → TS} {h₀ : ExceptHandler} {hs : List ExceptHandler} {p1 pos : Pos}
theorem ps_tryA {i : Nat} {x : Str} {pos' : Pos} (hst : X.stack = X.env :: X.outer) (hfr : X.env.frame = some X.env.locals) (hN : X.N.Nodup) (hi : X.N[i]? = some x) (hl : Loc X.env.scope x) (hx : PX X ex t) (hh : PH X (h₀ :: hs) th)
    (hsw : swapsWith ex (some (.Name x pos')) p1.line X.env = pure false := by rfl) (hf : X.fn x = true ∨ X.env.scope.names.lookup x = some .local := by first | exact .inl rfl | exact .inr rfl | assumption) :
    PS X (.Try [.Assign [.Name x pos'] ex p1] (h₀ :: hs) [] [] pos) (tTryA i t th) := by
  intro pins s σ H D I ⟨E, h, hE⟩
  refine wpAny_Try_except (wpAny_execs_cons (wpAny_Assign_Name (thn (hx _ E pins s σ H _ I h fun e cls c H' s' F q => ?_) fun v s1 ⟨y, H1, I1, r1, q1⟩ => ?_) hsw))
  · exact F.land I.ok.frames hst hfr fun s2 F2 => hh e cls c pins s2 σ H' D F2 (hE cls c H' q)
  · exact store_ok I1 hN hi hl r1 (fun s2 I2 => wpAny_execs_nil (wpAny_execs_nil ⟨_, H1, I2, q1⟩)) hf
end
section
variable {P : Program} {w : World} {K : PySem.W.Frag} {mg : Str → Option Value} {base : Heap}
theorem Fun.okX {x qual : Str} {st : Stmt} {f : Addr} {fd : FuncData} {N ps : List Str} {k : Nat} {sp : Sp} (F : Fun K x qual st f fd) (S : FnScope N ps (defScope st)) (len : ∀ vs H Q E, sp vs H Q E → vs.length = ps.length)
    (hbody : ∀ (cdv : Value) (A : Around) (outer : List Env) (s : Shared) (H : Hp) (vs : List V) (Q : VK) (E : XK), Room k (A.deeper (envOfC qual (defScope st) s.heap.objs.size f cdv)) → sp vs H Q E →
      ∃ t, PSs (cxOf (CX1 P w) P w K mg base N qual (defScope st) f cdv A outer s H E) (defBody st) t ∧ t { nx := fun _ H' => Q .non H', rt := Q } (start N vs) H) : FnOk P w K mg base (CX1 P w) (k + 1) f fd ps sp := by
  obtain ⟨oc, od, kV, doc, pm, an, cdv, ct, osl, rfl, lk, hcd⟩ := F.ex
  exact fn_of lk hcd S len fun A outer s H vs Q E hr hsp => hbody cdv A outer s H vs Q E hr hsp
theorem raises_cx {N : List Str} {qual : Str} {scope : Scope} {f : Addr} {cd : Value} {A : Around} {outer : List Env} {s : Shared} {H : Hp} {E : XK} : Raises (cxOf (CX1 P w) P w K mg base N qual scope f cd A outer s H E) E :=
  fun _ _ _ _ _ _ _ _ I hx q => raisesX I hx q
end
theorem get_listK {X : Cx} {K : PySem.W.Frag} (hK : X.K = K) : PGet X (rIxL K) := by
  subst hK
  intro pins s σ H o i ov iv Q I ro ri h
  obtain ⟨p, xs, k, z, rfl, rfl, hq, he, q⟩ := h
  cases ro
  obtain ⟨t, rfl⟩ := ri
  obtain ⟨its, r, pl, hz⟩ := I.list hq
  obtain ⟨j, h1, h2, h3, h4, h5⟩ := atI_get he
  obtain ⟨w, ew, rw'⟩ := r.get h2
  have hl := r.length
  have hn := line63
  have fin : EP X pins σ Q w s := ⟨z, H, I, rw', q⟩
  by_cases h0 : 0 ≤ k
  · have hj : k.toNat = j := by
      rw [seqIndex_of h0 h5] at h1
      exact Option.some.inj h1
    exact wpAny_getItem_list pl.isList h0 (by omega) (by rw [hj]; simpa using ew) fin
  · have hj : (k + (its.toArray.size : Int)).toNat = j := by
      rw [seqIndex_neg (by omega) h4] at h1
      rw [List.size_toArray, ← hl]
      exact Option.some.inj h1
    exact wpAny_getItem_list_neg pl.isList (by omega) (by rw [List.size_toArray] <;> omega) (by omega) (by rw [hj]; simpa using ew) fin
section
variable {X : Cx} {K : PySem.W.Frag}
end
end L2
set_option Elab.async false
set_option linter.all false
set_option maxRecDepth 100000
set_option maxHeartbeats 4000000
namespace L2
open PySem PySem.Spec PyProof.Rows
section
variable {K : PySem.W.Frag} {x qual : Str} {st : Stmt} {f : Addr} {fd : FuncData}
theorem Fun.binds1 {p0 : Str} (F : Fun K x qual st f fd) (h : ∀ (kV doc pm : Value) (an : Option Addr) (cdv ct : Value) (a0 : Value), bindArgs (PySem.W.fnOf x qual (defArgs st) (defBody st) (defScope st) .none kV doc pm an cdv ct) ⟨[a0], []⟩ = pure (List.zip [p0] [a0])) : Binds K fd [p0] [] :=
  F.binds fun kV doc pm an cdv ct us hl => match us, hl with | [a0], _ => h kV doc pm an cdv ct _
theorem Fun.binds2 {p0 p1 : Str} (F : Fun K x qual st f fd) (h : ∀ (kV doc pm : Value) (an : Option Addr) (cdv ct : Value) (a0 a1 : Value), bindArgs (PySem.W.fnOf x qual (defArgs st) (defBody st) (defScope st) .none kV doc pm an cdv ct) ⟨[a0, a1], []⟩ = pure (List.zip [p0, p1] [a0, a1])) : Binds K fd [p0, p1] [] :=
  F.binds fun kV doc pm an cdv ct us hl => match us, hl with | [a0, a1], _ => h kV doc pm an cdv ct _ _
theorem Fun.binds3 {p0 p1 p2 : Str} (F : Fun K x qual st f fd) (h : ∀ (kV doc pm : Value) (an : Option Addr) (cdv ct : Value) (a0 a1 a2 : Value), bindArgs (PySem.W.fnOf x qual (defArgs st) (defBody st) (defScope st) .none kV doc pm an cdv ct) ⟨[a0, a1, a2], []⟩ = pure (List.zip [p0, p1, p2] [a0, a1, a2])) : Binds K fd [p0, p1, p2] [] :=
  F.binds fun kV doc pm an cdv ct us hl => match us, hl with | [a0, a1, a2], _ => h kV doc pm an cdv ct _ _ _
end
end L2
namespace Com
open PySem L2
theorem same_upd {H H1 : Hp} {b : Addr} {o : HO} (s : Same H H1) (hb : H b = none) : Same H (upd H1 b o) := fun c u e => by
  rw [upd_ne (ne_of_none e hb)]
  exact s c u e
theorem same_new {H : Hp} {b : Addr} {o : HO} (hb : H b = none) : Same H (upd H b o) := same_upd (Same.refl H) hb
theorem seq_mk {t u : TS} {D : Ends} {σ : St} {H : Hp} (R : St → Hp → Prop) (h1 : ∀ σ' H', R σ' H' → u D σ' H') (h2 : (∀ σ' H', R σ' H' → u D σ' H') → t { D with nx := u D } σ H) : tSeq t u D σ H := h2 h1
theorem seq_mk' {t u : TS} {D : Ends} {σ : St} {H : Hp} (R : St → Hp → Prop) (h1 : ∀ σ' H', R σ' H' → u D σ' H') (h2 : ∀ D' : Ends, (∀ σ' H', R σ' H' → D'.nx σ' H') → t D' σ H) : tSeq t u D σ H := h2 _ h1
theorem for_rangeN {lo : Int} {n : Nat} {g : TG} {tb : TS} {D : Ends} {σ : St} {H : Hp} (Pv : Nat → St → Hp → Prop) (h0 : Pv 0 σ H)
    (hs : ∀ i σ H, i < n → Pv i σ H → ∀ D' : Ends, (∀ σ' H', Pv (i + 1) σ' H' → D'.nx σ' H') → g (.int (lo + i)) σ H fun σ2 H2 => tb D' σ2 H2) (hd : ∀ σ H, Pv n σ H → D.nx σ H) :
    ∃ W : Nat → Nat → St → Hp → Prop, (∃ m, W 0 m σ H) ∧ ∀ i m σ H, W i m σ H →
      ((Itr lo n).stop i H ∧ D.nx σ H) ∨ ((Itr lo n).go i H ∧ ∃ N : St → Hp → Prop, (∀ σ' H', N σ' H' → ∃ m', m' < m ∧ W (i + 1) m' σ' H') ∧ ∀ x H', (Itr lo n).yld i H x H' → g x σ H' fun σ2 H2 => tb { D with nx := N, ct := N, bk := D.nx } σ2 H2) :=
  for_range Pv h0 (fun i σ H hi hp => hs i σ H hi hp _ fun _ _ z => z) hd
def drawn (ns : List Int) (k many : Int) : Int :=
  ((if 0 < (ns.length : Int) then ns.getD (k % (ns.length : Int)).toNat 0 else 7) * (48271 + 9973 * (k % 97)) + (k + 1) * (k + 3) * 16807 + (ns.length : Int)) % 2147483647 / 16 % many
theorem drawn_nn (ns : List Int) (k : Int) {many : Int} (h : 0 < many) : 0 ≤ drawn ns k many := Int.emod_nonneg _ (by omega)
theorem drawn_lt (ns : List Int) (k : Int) {many : Int} (h : 0 < many) : drawn ns k many < many := Int.emod_lt_of_pos _ h
def RowOk (n : Nat) (r : List Int) : Prop := 1 ≤ r.length ∧ r.length ≤ 8 ∧ ∀ e ∈ r, -1 ≤ e ∧ e < (n : Int)
def Wf (rows : List (List Int)) : Prop := 1 ≤ rows.length ∧ rows.length ≤ 12 ∧ ∀ r ∈ rows, RowOk rows.length r
structure Mat (H : Hp) (R : Addr) (as : List Addr) (rows : List (List Int)) : Prop where
  hd : H R = some (.lst (as.map V.ref))
  len : as.length = rows.length
  row : ∀ (i : Nat) a r, as[i]? = some a → rows[i]? = some r → H a = some (.lst (r.map V.int))
  nd : (R :: as).Nodup
theorem Mat.same {H H' : Hp} {R : Addr} {as : List Addr} {rows : List (List Int)} (m : Mat H R as rows) (s : Same H H') : Mat H' R as rows :=
  ⟨s _ _ m.hd, m.len, fun i a r e1 e2 => s _ _ (m.row i a r e1 e2), m.nd⟩
theorem Mat.keep {H H' : Hp} {R : Addr} {as : List Addr} {rows : List (List Int)} (m : Mat H R as rows) (k : ∀ b o, b ∈ R :: as → H b = some o → H' b = some o) : Mat H' R as rows :=
  ⟨k _ _ List.mem_cons_self m.hd, m.len, fun i a r e1 e2 => k _ _ (List.mem_cons_of_mem _ (List.mem_of_getElem? e1)) (m.row i a r e1 e2), m.nd⟩
theorem Mat.upd {H : Hp} {R : Addr} {as : List Addr} {rows : List (List Int)} {b : Addr} {o : HO} (m : Mat H R as rows) (hb : b ∉ R :: as) : Mat (upd H b o) R as rows :=
  m.keep fun c u hc e => by
    rw [upd_ne (fun z => hb (by rw [← z]; exact hc))]
    exact e
theorem Mat.new {H : Hp} {R : Addr} (hR : H R = some (.lst [])) : Mat H R [] [] := ⟨hR, rfl, fun i a r e => by simp at e, by simp⟩
theorem Mat.snoc {H : Hp} {R D : Addr} {as : List Addr} {rows : List (List Int)} {r : List Int} (m : Mat H R as rows) (hD : H D = some (.lst (r.map V.int))) (nD : D ∉ R :: as) :
    Mat (L2.upd H R (.lst (as.map V.ref ++ [V.ref D]))) R (as ++ [D]) (rows ++ [r]) := by
  have hR : ∀ a ∈ as, a ≠ R := fun a ha z => by have := (List.nodup_cons.mp m.nd).1; rw [← z] at this; exact this ha
  have hDR : D ≠ R := fun z => nD (by rw [z]; exact List.mem_cons_self)
  refine ⟨by rw [upd_same, List.map_append]; rfl, by simp [m.len], fun i a r' e1 e2 => ?_, ?_⟩
  · by_cases hi : i < as.length
    · rw [List.getElem?_append_left hi] at e1
      rw [List.getElem?_append_left (by rw [← m.len]; exact hi)] at e2
      rw [upd_ne (hR a (List.mem_of_getElem? e1))]
      exact m.row i a r' e1 e2
    · rw [List.getElem?_append_right (by omega)] at e1
      rw [List.getElem?_append_right (by rw [← m.len]; omega)] at e2
      rw [m.len] at e1
      cases q : i - rows.length with
      | zero =>
        rw [q] at e1 e2
        simp at e1 e2
        subst e1 e2
        rw [upd_ne hDR]
        exact hD
      | succ n =>
        rw [q] at e1
        simp at e1
  · have h1 := m.nd
    rw [List.nodup_cons] at h1 ⊢
    refine ⟨fun z => ?_, ?_⟩
    · rcases List.mem_append.mp z with z | z
      · exact h1.1 z
      · exact hDR (List.mem_singleton.mp z).symm
    · rw [List.nodup_append]
      refine ⟨h1.2, by simp, fun x hx y hy => ?_⟩
      rw [List.mem_singleton.mp hy]
      intro z
      exact nD (by rw [← z]; exact List.mem_cons_of_mem _ hx)
theorem Mat.get {H : Hp} {R : Addr} {as : List Addr} {rows : List (List Int)} (m : Mat H R as rows) {i : Nat} (hi : i < rows.length) : ∃ a, as[i]? = some a ∧ H a = some (.lst ((rows[i]).map V.int)) ∧ a ∈ as := by
  have h : i < as.length := by rw [m.len]; exact hi
  exact ⟨as[i], List.getElem?_eq_getElem h, m.row i _ _ (List.getElem?_eq_getElem h) (List.getElem?_eq_getElem hi), List.getElem_mem h⟩
theorem Mat.refs {H : Hp} {R : Addr} {as : List Addr} {rows : List (List Int)} (m : Mat H R as rows) {i : Nat} {x : V} (e : (as.map V.ref)[i]? = some x) : ∃ a, ∃ hi : i < rows.length, x = .ref a ∧ as[i]? = some a ∧ H a = some (.lst ((rows[i]).map V.int)) ∧ a ∈ as := by
  rw [List.getElem?_map] at e
  cases q : as[i]? with
  | none => rw [q] at e; cases e
  | some a =>
    rw [q] at e
    have hi : i < rows.length := by rw [← m.len]; exact (List.getElem?_eq_some_iff.mp q).1
    refine ⟨a, hi, (Option.some.inj e).symm, rfl, m.row i a _ q (List.getElem?_eq_getElem hi), List.mem_of_getElem? q⟩
theorem Mat.set {H : Hp} {R a : Addr} {as : List Addr} {rows : List (List Int)} {i : Nat} {r : List Int} (m : Mat H R as rows) (ea : as[i]? = some a) : Mat (L2.upd H a (.lst (r.map V.int))) R as (rows.set i r) := by
  have ha := List.mem_of_getElem? ea
  have h1 := List.nodup_cons.mp m.nd
  have hR : R ≠ a := fun z => h1.1 (by rw [z]; exact ha)
  refine ⟨by rw [upd_ne hR]; exact m.hd, by simp [m.len], fun j b r' e1 e2 => ?_, m.nd⟩
  by_cases hj : i = j
  · subst hj
    rw [ea] at e1
    cases e1
    have hi : i < rows.length := by rw [← m.len]; exact (List.getElem?_eq_some_iff.mp ea).1
    rw [List.getElem?_set_self hi] at e2
    cases e2
    exact upd_same
  · have hb : b ≠ a := fun z => hj (by
      subst z
      obtain ⟨x1, y1⟩ := List.getElem?_eq_some_iff.mp ea
      obtain ⟨x2, y2⟩ := List.getElem?_eq_some_iff.mp e1
      exact (List.getElem_inj h1.2).mp (y1.trans y2.symm))
    rw [List.getElem?_set_ne hj] at e2
    rw [upd_ne hb]
    exact m.row j b r' e1 e2
theorem Mat.sq {K : PySem.W.Frag} {H : Hp} {R : Addr} {as : List Addr} {rows : List (List Int)} (m : Mat H R as rows) : SqL K H R (as.map V.ref) := SqL.of m.hd
theorem Mat.reflen {H : Hp} {R : Addr} {as : List Addr} {rows : List (List Int)} (m : Mat H R as rows) : (as.map V.ref).length = rows.length := by rw [List.length_map, m.len]
structure Brd where
  rows : List (List Int)
  turns : List Int
  loads : List Int
  steps : List Int
  taken : Int
def bflds (aR aT aL aS : Addr) (z : Int) : List (Str × V) := [("rows", .ref aR), ("turns", .ref aT), ("loads", .ref aL), ("steps", .ref aS), ("taken", .int z)]
structure BoardAt (C : Addr) (H : Hp) (p dx aR : Addr) (as : List Addr) (aT aL aS : Addr) (b : Brd) : Prop where
  ob : H p = some (.ins C dx (bflds aR aT aL aS b.taken))
  mat : Mat H aR as b.rows
  hT : H aT = some (.lst (b.turns.map V.int))
  hL : H aL = some (.lst (b.loads.map V.int))
  hS : H aS = some (.lst (b.steps.map V.int))
  nd : (p :: aT :: aL :: aS :: aR :: as).Nodup
theorem BoardAt.keep {C : Addr} {H H' : Hp} {p dx aR : Addr} {as : List Addr} {aT aL aS : Addr} {b : Brd} (B : BoardAt C H p dx aR as aT aL aS b) (k : ∀ c o, c ∈ p :: aT :: aL :: aS :: aR :: as → H c = some o → H' c = some o) : BoardAt C H' p dx aR as aT aL aS b :=
  ⟨k _ _ (by simp) B.ob, B.mat.keep fun c o hc => k c o (by simp at hc ⊢; rcases hc with h | h <;> simp [h]), k _ _ (by simp) B.hT, k _ _ (by simp) B.hL, k _ _ (by simp) B.hS, B.nd⟩
theorem BoardAt.same {C : Addr} {H H' : Hp} {p dx aR : Addr} {as : List Addr} {aT aL aS : Addr} {b : Brd} (B : BoardAt C H p dx aR as aT aL aS b) (s : Same H H') : BoardAt C H' p dx aR as aT aL aS b := B.keep fun c o _ => s c o
theorem bf_rows (aR aT aL aS : Addr) (z : Int) : (bflds aR aT aL aS z).lookup ("rows" : Str) = some (.ref aR) := by rfl
theorem bf_turns (aR aT aL aS : Addr) (z : Int) : (bflds aR aT aL aS z).lookup ("turns" : Str) = some (.ref aT) := by rfl
theorem bf_loads (aR aT aL aS : Addr) (z : Int) : (bflds aR aT aL aS z).lookup ("loads" : Str) = some (.ref aL) := by rfl
theorem bf_steps (aR aT aL aS : Addr) (z : Int) : (bflds aR aT aL aS z).lookup ("steps" : Str) = some (.ref aS) := by rfl
theorem bf_taken (aR aT aL aS : Addr) (z : Int) : (bflds aR aT aL aS z).lookup ("taken" : Str) = some (.int z) := by rfl
theorem putF_new (f : Str) (v : V) : ∀ fs : List (Str × V), (∀ p ∈ fs, p.1 ≠ f) → putF f v fs = fs ++ [(f, v)]
  | [], _ => rfl
  | (g, u) :: r, h => by
    have hg : ¬ g = f := h (g, u) List.mem_cons_self
    show (if g = f then (g, v) :: r else (g, u) :: putF f v r) = _
    rw [if_neg hg, putF_new f v r fun p hp => h p (List.mem_cons_of_mem _ hp)]
    rfl
theorem bflds_mk (aR aT aL aS : Addr) : putF "taken" (.int 0) (putF "steps" (.ref aS) (putF "loads" (.ref aL) (putF "turns" (.ref aT) (putF "rows" (.ref aR) [])))) = bflds aR aT aL aS 0 := by
  have n1 : ∀ p ∈ ([("rows", .ref aR)] : List (Str × V)), p.1 ≠ ("turns" : Str) := fun p hp => by
    rw [List.mem_singleton.mp hp]; show ("rows" : Str) ≠ "turns"; decide +kernel
  have k (ks : List Str) (f : Str) (h : f ∉ ks) (fs : List (Str × V)) (e : fs.map (·.1) = ks) : ∀ p ∈ fs, p.1 ≠ f := fun p hp z => h (by rw [← e, ← z]; exact List.mem_map.mpr ⟨p, hp, rfl⟩)
  rw [show putF "rows" (.ref aR) [] = ([("rows", .ref aR)] : List (Str × V)) from rfl, putF_new "turns" _ _ n1, putF_new "loads" _ _ (k ["rows", "turns"] _ (by decide +kernel) _ rfl), putF_new "steps" _ _ (k ["rows", "turns", "loads"] _ (by decide +kernel) _ rfl), putF_new "taken" _ _ (k ["rows", "turns", "loads", "steps"] _ (by decide +kernel) _ rfl)]
  rfl
end Com
set_option Elab.async false
set_option linter.all false
set_option maxRecDepth 100000
set_option maxHeartbeats 4000000
namespace L2
open PySem PySem.Spec PyProof.Rows
def excO (D e : Addr) : HO := .ext fun h => ∃ ox, h.get? e = some ox ∧ ox.cls = .ref D
structure XIs (K : PySem.W.Frag) (D : Addr) : Prop where
  hg : PySem.W.findIn K (.ref D) "__getattribute__" = some (some (.builtin "BaseException.__getattribute__"))
  hk : PySem.W.findIn K (.ref D) "__getattr__" = some none
  kb : PySem.W.kitOne K (.ref D) (.type "BaseException") = some true
  hd : PySem.W.hasDictIn K D = true
  ha : PySem.W.findIn K (.ref D) "__class__" = some (some (.builtin "object.__class__"))
  hn : PySem.W.specialIn K (.builtin "object.__class__") "__get__" = some (some (.builtin "getset_descriptor.__get__"))
  ht : PySem.W.takesIn K (.builtin "object.__class__") = some true
  hm : PySem.W.mroIn K D (.type "object") = some true
section
open PySem.W PySem.Calls PySem.Builtin PySem.Builtin.ObjectAttr PySem.Builtin.Getset_descriptor
variable {prog : Program} {w : World} {A : Around} {E : Value → Shared → Prop} {s : Shared} {K : Frag} {x D : Addr} {ox : Obj}
theorem xc_look {M : Model} {h : Heap} (he : h.get? x = some ox) (hc : ox.cls = .ref D) : Looks M h (typeOf (.ref x)) (.ref D) := hc ▸ (Looks.ld he).andThen .now
theorem xc_find {M : Model} {h : Heap} (X : K.In h) (F : XIs K D) : Looks M h (find (.ref x) (.ref D) "__class__") (.bind (.builtin "getset_descriptor.__get__") (.builtin "object.__class__")) := by
  have L1 := looks_findIn (M := M) X F.ha
  have L2 := looks_specialIn (M := M) X F.hn
  have L3 := looks_takesIn (M := M) X F.ht
  exact L1.andThen (L2.andThen ((show Looks M h (dataDescriptor? (some (.builtin "object.__class__")) (some (.builtin "getset_descriptor.__get__"))) (some (.builtin "getset_descriptor.__get__", .builtin "object.__class__")) from L3.andThen .now).andThen (Looks.tag .now)))
theorem xc_got {tp : Value} {R : Result → Shared → Prop} (X : K.In s.heap) (he : s.heap.get? x = some ox) (hc : ox.cls = .ref D) (F : XIs K D) (h : R (.ok (.ret (.ref D))) s) :
    codeAny (model prog w) A (.call (.builtin "getset_descriptor.__get__") ⟨[.builtin "object.__class__", .ref x, tp], []⟩) R s := by
  obtain ⟨hh, g, dr, t, os⟩ := s
  have L0 := xc_look (M := model prog w) he hc
  have L1 := looks_mroIn (M := model prog w) X F.hm
  refine codeAny_call_builtin KF.slot_gs.plain KF.entry_gs (KF.slot_gs.check _ _ _ _ _ _ _ _ KF.type_class (KF.args_gs _ _ _) ?_)
  unfold Builtin.«getset_descriptor.__get__» descrGet
  rw [dga_obj]
  refine wpAny_bind (wpAny_pure ?_)
  unfold descrGetter descrCheckInstance descrNameAndClass isInstance
  simp only [KF.owner_class]
  repeat lk
  refine ⟨Code.quiet_builtin _ (by decide +kernel), codeAny_builtin KF.entry_class ?_⟩
  unfold Builtin.«object.__class__» shownTypeOf
  repeat lk
  exact h
theorem xc_check {M : Model} {nameV : Value} {Q : Unit → Shared → Prop} (X : K.In s.heap) (he : s.heap.get? x = some ox) (hc : ox.cls = .ref D) (F : XIs K D) (hq : Q () s) : wpAny M A (checkBuiltinCall "BaseException.__getattribute__" ⟨[.ref x, nameV], []⟩) Q E s := by
  have n2 : ((Value.ref D == Value.type "BaseException") = true) = False := by
    simp only [eq_iff_iff, iff_false]
    intro z
    have := eq_of_beq z
    cases this
  have q2 := F.kb
  unfold PySem.W.kitOne at q2
  rw [if_neg (by rw [n2]; exact not_false)] at q2
  obtain ⟨_, _, l4⟩ := PySem.W.kit_cls (M := M) X q2
  have hk : builtinKind "BaseException.__getattribute__" = some .slot := by decide +kernel
  have hsplit : splitId "BaseException.__getattribute__" = some ("BaseException", "__getattribute__") := by decide +kernel
  have ha := PySem.F.args_bexc_ga (.ref x) nameV
  have L0 := xc_look (M := M) he hc
  have LI : Looks M s.heap (isInstance (.ref x) (.type "BaseException")) true := L0.andThen l4
  simp only [checkBuiltinCall, hk, hsplit]
  refine wpAny_bind (LI.at ?_)
  repeat (first | assumption | wp_step)
theorem xc_entry {tk : Tok} {Q : PySem.Fin → Shared → Prop} (X : K.In s.heap) (he : s.heap.get? x = some ox) (hc : ox.cls = .ref D) (F : XIs K D) (hq : Q (.done (.ret (.ref D))) s) :
    wpAny (model prog w) A (Builtin.«object.__getattribute__» ⟨[.ref x, .str "__class__" tk], []⟩) Q E s := by
  obtain ⟨h, g, d, t, os⟩ := s
  have L0 := xc_look (M := model prog w) he hc
  have L2 := xc_find (M := model prog w) (x := x) X F
  unfold Builtin.«object.__getattribute__»
  repeat (any_goals (first | assumption | with_reducible refine L0.at ?_ | with_reducible refine L2.at ?_ | wp_step))
  exact xc_got (s := ⟨h, g, d, t, os⟩) X he hc F (wpAny_pure hq)
theorem xc_class {Q : Option Value → Shared → Prop} (X : K.In s.heap) (he : s.heap.get? x = some ox) (hc : ox.cls = .ref D) (F : XIs K D) (h : Q (some (.ref D)) { s with toks := s.toks + 1 }) :
    wpAny (model prog w) A (getAttr? (.ref x) "__class__") Q E s := by
  obtain ⟨hh, g, d, t, os⟩ := s
  have L0 := xc_look (M := model prog w) he hc
  have L1 := looks_findIn (M := model prog w) X F.hg
  have L3 := looks_findIn (M := model prog w) X F.hk
  have f3 := PySem.F.excAttr_ValueError.ga.bind (.ref x)
  have hx0 : (false && onTheHeap (Value.builtin "BaseException.__getattribute__")) = false := rfl
  have hx2 : (Value.builtin "BaseException.__getattribute__" == Value.builtin "object.__getattribute__") = false := by decide +kernel
  have hx1 : (onTheHeap (Value.ref D) && Value.builtin "BaseException.__getattribute__" == Value.builtin "object.__getattribute__") = false := by rw [hx2]; rfl
  unfold getAttr? getAttrBy? getAttrBy
  refine wpAny_bind (wpAny_mkText (wpAny_bind (wpAny_attempt (wpAny_holding (wpAny_bind (L0.at (wpAny_bind (L1.at ?_))))))))
  dsimp only
  rw [if_neg (by rw [hx1]; exact Bool.false_ne_true)]
  unfold getAttrByItsOwn
  repeat (any_goals (first | assumption | with_reducible refine L0.at ?_ | with_reducible refine L1.at ?_ | with_reducible refine L3.at ?_ | wp_step))
  refine codeAny_call_builtin PySem.F.excAttr_ValueError.ga.plain PySem.F.entry_bexc_ga (xc_check (s := ⟨hh, g, d, t + 1, os⟩) X he hc F (xc_entry X he hc F ?_))
  repeat (any_goals (first | assumption | wp_step))
theorem kitx_exc (F : XIs K D) : KitX K (.ref x) (.ref D) (fun h => ∃ ox, h.get? x = some ox ∧ ox.cls = .ref D) where
  ty := fun _ _ _ ⟨_, he, hc⟩ => xc_look he hc
  it := fun _ _ X _ => by
    obtain ⟨cdD, hcD, _⟩ := any_some F.hd
    unfold clsIn at hcD
    split at hcD
    · rename_i c' d' cd' sl' ho
      intro A' Q' E' s' k q
      unfold isType loadHead
      exact wpAny_bind (wpAny_loadPart (k _ _ (X _ _ ho)) (wpAny_pure q))
    · cases hcD
  ne := fun h tp dd its n sl X htp => by
    obtain ⟨cdD, hcD, _⟩ := any_some F.hd
    refine Bool.eq_false_iff.mpr fun q => ?_
    have e : D = tp := Value.ref.inj (beq_iff_eq.mp q)
    subst e
    unfold clsIn at hcD
    split at hcD
    · rename_i c' d' cd' sl' ho
      have z := (X _ _ ho).symm.trans htp
      cases z
    · cases hcD
  ca := fun X ⟨_, he, hc⟩ k => xc_class X he hc F k
end
section
variable {X : Cx}
end
section
variable {X : Cx} {pins : List (Addr × Obj)} {σ : St} {H : Hp} {s : Shared}
theorem unbind_ok {M : Model} {A : Around} {E : Value → Shared → Prop} {i : Nat} {x : Str} {v : V} {Q : Unit → Shared → Prop} (I : Inv X pins σ H s) (hN : X.N.Nodup) (hi : X.N[i]? = some x) (hv : σ[i]? = some (some v))
    (hkl : X.env.kindOf x = some .local) (hvis : Vis X.env.scope x)
    (h : ∀ s', Inv X pins (σ.set i none) H s' → Q () s') : wpAny M A (unbindName X.env x) Q E s := by
  obtain ⟨m, hn, hl⟩ := id I.loc
  have hcls : (X.env.scope.kind == .class || (X.env.scope.kind == .module && X.env.locals != X.env.globals)) = false := by rw [I.ok.kind]; rfl
  have hiσ : i < σ.length := by rw [I.len]; exact (List.getElem?_eq_some_iff.mp hi).1
  have cne := I.cne
  obtain ⟨u, ru, lu⟩ := hl i x v hi hv hvis
  have hm : m x = some u := by
    rcases lu with ⟨_, e⟩ | ⟨k, _⟩
    · exact e
    · rcases k with k | k <;> (rw [hkl] at k; cases k)
  refine wpAny_unbindName_local hkl hn hm hcls fun h' u' hn' hs => ?_
  obtain ⟨oL, _, _, hoL, _⟩ := id hn
  refine h _ ⟨I.ok, I.os, I.bare, ⟨fun b o e n hb hx => ?_, fun b o e n hb hx => ?_, I.base.free, fun b o e hx => ?_, I.base.tups, I.base.frzs, I.base.tbls⟩, ⟨_, hn', fun j y v' e1 e2 e3 => ?_⟩, fun y c e => ?_, I.free, I.freeC, fun p hp => ?_, fun b ob e => ?_, by simpa using I.len⟩
  · exact (hs.2 b (Nat.ne_of_lt (Nat.lt_of_lt_of_le (Heap.lt_size e) I.ok.above))).trans (I.base.keep b o e n hb hx)
  · obtain ⟨sl, e1⟩ := I.base.slot b o e n hb hx
    exact ⟨sl, (hs.2 b (Nat.ne_of_lt (Nat.lt_of_lt_of_le (Heap.lt_size e) I.ok.above))).trans e1⟩
  · obtain ⟨o', e1⟩ := I.base.there b o e hx
    exact ⟨o', (hs.2 b (Nat.ne_of_lt (Nat.lt_of_lt_of_le (Heap.lt_size e) I.ok.above))).trans e1⟩
  · by_cases hj : j = i
    · subst hj
      rw [List.getElem?_set_self hiσ] at e2
      cases e2
    · rw [List.getElem?_set_ne (Ne.symm hj)] at e2
      obtain ⟨u2, r2, q⟩ := hl j y v' e1 e2 e3
      refine ⟨u2, r2, ?_⟩
      rcases q with ⟨k, e⟩ | ⟨k, c, e, z⟩
      · refine .inl ⟨k, ?_⟩
        have : y ≠ x := fun e => hj (nodup_ix hN e1 (e ▸ hi))
        simp [this, e]
      · exact .inr ⟨k, c, e, z.sameBut hs (cne y c e)⟩
  · obtain ⟨w', z⟩ := I.cell y c e
    exact ⟨w', z.sameBut hs (cne y c e)⟩
  · obtain ⟨e, n, ne, nf, d⟩ := I.pin p hp
    exact ⟨(hs.2 p.1 ne).trans e, n, ne, nf, d⟩
  · refine (I.hok b ob e).stay (fun c w' hc q => (hs.2 c ?_).trans q) (fun _ q => q) fun _ _ q => q
    rintro rfl
    rcases hc with rfl | hc
    · rw [I.free] at e; cases e
    · rw [I.free] at hc; cases hc
end
section
variable {X : Cx} {pins : List (Addr × Obj)} {σ : St} {H : Hp} {s : Shared} {e : Addr}
theorem ObjOk.there {P : Program} {w : World} {H : Hp} {h : Heap} {a : Addr} {o : HO} (x : ObjOk P w H h a o) : ∃ ob, h.get? a = some ob := by
  cases o with
  | lst xs => obtain ⟨_, its, n, _, e⟩ := x; exact ⟨_, e⟩
  | tup xs => obtain ⟨_, _, _, p⟩ := x; obtain ⟨o, e, _⟩ := p; exact ⟨_, e⟩
  | dK kvs => obtain ⟨_, _, vs, _, p⟩ := x; obtain ⟨o, es, ep, e, _⟩ := p; exact ⟨_, e⟩
  | dT kvs => obtain ⟨_, _, xs, _, o, es, ep, e, _⟩ := x; exact ⟨_, e⟩
  | set S n => obtain ⟨o, _, _, _, e, _⟩ := x; exact ⟨_, e⟩
  | ins C dx fs => obtain ⟨_, _, _, e, _⟩ := x; exact ⟨_, e⟩
  | own y => exact x
  | xd fs => obtain ⟨_, ⟨_, _, _, e, _⟩, _⟩ := x; exact ⟨_, e⟩
  | met f y => exact ⟨_, x⟩
  | rng lo hi => obtain ⟨_, _, _, e⟩ := x; exact ⟨_, e⟩
  | frz ob u => exact ⟨_, x.1⟩
  | tbl ps => exact ⟨_, x⟩
  | ext φ => exact x.2.1
theorem Fl.fresh {cls : Value} {c : Option Addr} (F : Fl X pins σ e cls c H s) : H e = none := by
  obtain ⟨s0, H0, B, I, os, bare, xb, sl, fl⟩ := F
  cases q : H e with
  | none => rfl
  | some o =>
    have := (xb.hok e o q).there
    obtain ⟨ob, z⟩ := this
    rw [fl.2.1] at z; cases z
def unb (i : Nat) (D : Ends) : Ends := { nx := fun σ H => D.nx (σ.set i none) H, rt := D.rt, bk := fun σ H => D.bk (σ.set i none) H, ct := fun σ H => D.ct (σ.set i none) H }
theorem unbind_suite {M : Model} {A : Around} {E : Value → Shared → Prop} {i : Nat} {x : Str} {pos : Pos} {D : Ends} {f : Flow} (ok : X.Ok) (hN : X.N.Nodup) (hi : X.N[i]? = some x) (hkl : X.env.kindOf x = some .local) (hvis : Vis X.env.scope x)
    (h : SP X pins (unb i D) f s) : wpAny M A (do bindName X.env x .none; unbindBehindTheSuite X.env x pos) (fun _ s' => SP X pins D f s') E s := by
  have go : ∀ (σ' : St) (H' : Hp) (Q : Unit → Shared → Prop), Inv X pins σ' H' s → (∀ s', Inv X pins (σ'.set i none) H' s' → Q () s') → wpAny M A (do bindName X.env x .none; unbindBehindTheSuite X.env x pos) Q E s := fun σ' H' Q I q => by
    have hiσ : i < σ'.length := by rw [I.len]; exact (List.getElem?_eq_some_iff.mp hi).1
    unfold bindName
    refine wpAny_bind (wpAny_bind (wpAny_holding (wpAny_point (wpAny_bind (store_ok I hN hi (.inl hkl) (v := .non) rfl (fun s1 I1 => wpAny_point ?_) (.inr hkl))))))
    unfold unbindBehindTheSuite
    refine wpAny_onRaise (unbind_ok I1 hN hi (v := .non) (by rw [List.getElem?_set_self hiσ]) hkl hvis fun s2 I2 => q s2 ?_)
    rw [List.set_set] at I2
    exact I2
  cases f with
  | next => obtain ⟨σ', H', I, q⟩ := h; exact go σ' H' _ I fun s' I' => ⟨_, _, I', q⟩
  | brk => obtain ⟨σ', H', I, q⟩ := h; exact go σ' H' _ I fun s' I' => ⟨_, _, I', q⟩
  | cont => obtain ⟨σ', H', I, q⟩ := h; exact go σ' H' _ I fun s' I' => ⟨_, _, I', q⟩
  | ret u => obtain ⟨v, σ', H', I, r, q⟩ := h; exact go σ' H' _ I fun s' I' => ⟨v, _, _, I', r, q⟩
end
section
variable {X : Cx} {i : Nat} {n x : Str} {C : Addr} {np pos : Pos} {b₀ : Stmt} {suite : List Stmt} {rest : List ExceptHandler} {tb : TS} {tr : Value → Option Addr → TS}
end
end L2
set_option Elab.async false
set_option linter.all false
set_option maxRecDepth 100000
set_option maxHeartbeats 4000000
namespace L2
open PySem PySem.Spec PyProof.Rows
section
variable {X : Cx} {pins : List (Addr × Obj)} {σ : List (Option V)} {H : Hp} {s : Shared} {h' : Heap}
theorem Inv.turnedL {t' : Nat} {fp : List Addr} (I : Inv X pins σ H s) (k : ∀ b o, b ∉ fp → s.heap.get? b = some o → h'.get? b = some o) (hf : ∀ b ∈ fp, FpOk X pins H b) : Inv X pins σ H { s with heap := h', toks := t' } := by
  have nit : ∀ b u, H b = some u → b ∉ fp := fun b u e z => by rw [(hf b z).1] at e; cases e
  refine I.step (g' := s.gens) (d' := s.drawn) (ch := fp) (fun b hb => ?_) (fun b o _ _ hc e _ => k b o hc e) (fun b o _ _ hc e _ => ⟨o.slots, k b o hc e⟩) (fun _ _ _ _ n => n)
    (fun b o hc e => ⟨o, k b o hc e⟩) (fun _ _ e => e) (fun _ _ _ e => e) (fun b ps e => ⟨#[], by rw [e]; simp⟩) (fun m hm => ?_) (fun b u e => ?_) I.bare
  · obtain ⟨_, f1, _, f3, f4, f5⟩ := hf b hb
    exact ⟨f3, f1, f4, f5⟩
  · obtain ⟨o, es, ep, ho, r⟩ := hm
    exact ⟨o, es, ep, k _ o (fun z => (hf _ z).2.1 rfl) ho, r⟩
  · refine (I.hok b u e).stay (fun c v hc q => k c v ?_ q) (fun _ q => q) fun _ _ q => q
    rcases hc with z | z
    · rw [z]; exact nit b u e
    · exact nit c _ z
theorem Inv.track {a : Addr} {o : HO} (I : Inv X pins σ H s) (f : FpOk X pins H a) (hsz : X.s₀.heap.objs.size ≤ a) (new : ObjOk X.prog X.w (upd H a o) s.heap a o) : Inv X pins σ (upd H a o) s := by
  obtain ⟨f0, f1, f2, f3, f4, f5⟩ := f
  have ne0 : ∀ b ob, X.s₀.heap.get? b = some ob → b ≠ a := fun b ob e => Nat.ne_of_lt (Nat.lt_of_lt_of_le (Heap.lt_size e) hsz)
  refine ⟨I.ok, I.os, I.bare, ⟨I.base.keep, I.base.slot, fun b ob e n hx => by rw [upd_ne (ne0 b ob e)]; exact I.base.free b ob e n hx, I.base.there, fun b xs e => ?_, fun b ob u e => ?_, fun b ps e => ?_⟩, I.loc, I.cell, by rw [upd_ne (Ne.symm f1)]; exact I.free, fun x c e => by rw [upd_ne (f4 x c e)]; exact I.freeC x c e, fun p hp => ?_, fun b ob e => ?_, I.len⟩
  · have z := I.base.tups b xs e
    rw [upd_ne (ne_of_none z f0)]; exact z
  · have z := I.base.frzs b ob u e
    rw [upd_ne (ne_of_none z f0)]; exact z
  · obtain ⟨m, z⟩ := I.base.tbls b ps e
    exact ⟨m, by rw [upd_ne (ne_of_none z f0)]; exact z⟩
  · obtain ⟨e, n, r⟩ := I.pin p hp
    exact ⟨e, by rw [upd_ne (f5 p hp)]; exact n, r⟩
  · by_cases hb : b = a
    · subst hb
      rw [upd_same] at e
      cases e
      exact new
    · rw [upd_ne hb] at e
      exact (I.hok b ob e).stay (fun _ _ _ z => z) (fun c z => by rw [upd_ne (ne_of_none z f0)]; exact z) fun c xs z => by rw [upd_ne (ne_of_none z f0)]; exact z
end
def Ite (K : PySem.W.Frag) (a : Addr) (xs : List V) : It :=
  ⟨fun i H => i < xs.length ∧ SqL K H a xs, fun i H x H' => ∃ p y, H p = none ∧ xs[i]? = some y ∧ x = .ref p ∧ H' = upd H p (.tup [.int (i : Int), y]), fun i H => i = xs.length ∧ SqL K H a xs⟩
theorem turn_enum {P : Program} {w : World} {K : PySem.W.Frag} {elts : List Expr} {x1 : Nat} {tpos : Pos} (a e it : Addr) (xs : List V) (hei : e ≠ it) :
    Turn P w K (.Tuple elts x1 tpos) (Ite K a xs) [e, it] e (fun i h => (∃ old, IsEnum h e it ((i : Nat) : Int) old) ∧ h.IsListIter it a i) true where
  mem := by simp
  obj := fun i h st b hb => by
    obtain ⟨⟨old, he⟩, o, e2, c, d⟩ := st
    simp only [List.mem_cons, List.not_mem_nil, or_false] at hb
    rcases hb with rfl | rfl
    · exact ⟨_, he, fun v z => by cases z⟩
    · exact ⟨o, e2, fun v z => by rw [d] at z; cases z⟩
  keep := fun i h h' st k => ⟨by obtain ⟨old, he⟩ := st.1; exact ⟨old, k e (by simp) _ he⟩, st.2.at fun o e2 => k it (by simp) o e2⟩
  item := by
    intro X hP hw hK hc i pins s σ H E I hf st hg
    subst hP hw hK
    obtain ⟨hi, hq⟩ := hg
    obtain ⟨⟨old, he⟩, hit⟩ := st
    obtain ⟨its, rv, p, hz⟩ := I.list hq
    have hl := rv.length
    obtain ⟨u, hu, ru⟩ := rv.get (List.getElem?_eq_getElem (l := xs) (i := i) hi)
    refine wpAny_pyNext_enum_item he hit p.isList (x := u) (by simpa using hu) hei fun h1 heo hit1 ht1 hz1 hk1 => ?_
    refine ⟨.ref s.heap.objs.size, rfl, ?_⟩
    refine wpAny_letOwnedTupleGo_enum heo fun h2 he2 hs2 => ?_
    have hes : e < s.heap.objs.size := Heap.lt_size he
    have k2 : ∀ b o, b ∉ [e, it] → s.heap.get? b = some o → h2.get? b = some o := fun b o hb q => by
      simp only [List.mem_cons, List.not_mem_nil, or_false, not_or] at hb
      exact (hs2.2 b hb.1).trans (hk1 b o hb.1 hb.2 q)
    have I1 : Inv X pins σ H { s with heap := h2, toks := s.toks + 1 } := I.turnedL (t' := s.toks + 1) k2 hf
    have fn : H s.heap.objs.size = none := I.hok.fresh (Nat.le_refl _)
    have htup : h2.get? s.heap.objs.size = some { cls := .type "tuple", data := .seq #[.int i s.toks, u] } := (hs2.2 _ (Nat.ne_of_gt hes)).trans ht1
    have I2 := I1.track (a := s.heap.objs.size) (o := .tup [.int (i : Int), xs[i]]) (I.fpOk (Nat.le_refl _) fn) I.sz (by
      refine ⟨by rw [sizeLine_eq]; show 2 ≤ _; decide, [.int i s.toks, u], .cons ⟨_, rfl⟩ (.cons ru .nil), ?_⟩
      exact ⟨_, htup, rfl, _, rfl⟩)
    refine ⟨.ref s.heap.objs.size, _, I2, rfl, ⟨s.heap.objs.size, xs[i], fn, List.getElem?_eq_getElem hi, rfl, rfl⟩, ⟨⟨u, ?_⟩, ?_⟩, fun b hb => ?_⟩
    · have : ((i + 1 : Nat) : Int) = (i : Int) + 1 := by omega
      rw [this]; exact he2
    · exact hit1.extBut hs2.extBut (Ne.symm hei)
    · have hb' := (hf b hb).1
      have : b < s.heap.objs.size := by
        simp only [List.mem_cons, List.not_mem_nil, or_false] at hb
        rcases hb with rfl | rfl
        · exact hes
        · obtain ⟨o, e2, _⟩ := hit; exact Heap.lt_size e2
      rw [upd_ne (Nat.ne_of_lt this)]; exact hb'
  done := by
    intro X hP hw hK hc i pins s σ H E I hf st hg
    subst hP hw hK
    obtain ⟨hi, hq⟩ := hg
    subst hi
    obtain ⟨⟨old, he⟩, hit⟩ := st
    obtain ⟨its, rv, p, hz⟩ := I.list hq
    have hl := rv.length
    refine wpAny_pyNext_enum_end (I.ok.hd (hc.1 rfl)) he hit p.isList (by simp; omega) fun h1 he1 => ⟨rfl, ?_⟩
    exact I.turnedL (t' := s.toks) (fp := [e, it]) (fun b o hb q => he1 b o (fun z => hb (by simp [z])) q) hf
  self := fun _ _ _ _ _ st h => by obtain ⟨⟨old, he⟩, _⟩ := st; exact wpAny_pyIter_enum he h
def iEnum (K : PySem.W.Frag) (ta : TA) : TI := fun σ H R => ta σ H fun vs H1 => ∃ a xs, vs = [.ref a] ∧ SqL K H1 a xs ∧ R (Ite K a xs) H1
section
variable {X : Cx}
theorem pi_enum {elts : List Expr} {x1 : Nat} {tpos : Pos} {a : Expr} {ta : TA} {p pos : Pos} {K : PySem.W.Frag} (hK : X.K = K) (hg : Gl X "enumerate") (hm : X.mg "enumerate" = none) (ha : PA X [a] ta) (hs : starEach [a] X.env = [(false, eval a X.env)] := by rfl) (hca : X.calm = true := by rfl) :
    PI X (.Tuple elts x1 tpos) (.Call (.Name "enumerate" p) [a] [] pos) (iEnum K ta) := by
  subst hK
  intro pins s σ H R I h
  refine Call_ (ld_blt I hg hm boot_enumerate (PyProof.Rows.callWith_type1 (thn (ha pos pins s σ H _ I h) fun us s1 ⟨vs, H1, I1, r1, q1⟩ => ?_) hs rfl))
  obtain ⟨l, xs, e, hq, q⟩ := q1
  subst e
  obtain ⟨u, rfl, ru⟩ := vals1 r1
  cases ru
  obtain ⟨its, rv, pl, hz⟩ := I1.list hq
  refine call_enumerate_list pl.isList fun h1 he hit hsz hk => ?_
  refine wpAny_pyIter_enum (s := { s1 with heap := h1 }) he ?_
  refine ⟨s1.heap.objs.size + 1, [s1.heap.objs.size + 1, s1.heap.objs.size], _, _, H1, rfl, I1.kept (t' := s1.toks) hk, ⟨true, turn_enum l (s1.heap.objs.size + 1) s1.heap.objs.size xs (Nat.succ_ne_self _), fun _ => hca⟩, ⟨⟨_, he⟩, hit⟩, fun b hb => ?_, q⟩
  simp only [List.mem_cons, List.not_mem_nil, or_false] at hb
  rcases hb with rfl | rfl
  · exact I1.fpOk (Nat.le_succ _) (I1.hok.fresh (Nat.le_succ _))
  · exact I1.fpOk (Nat.le_refl _) (I1.hok.fresh (Nat.le_refl _))
end
theorem for_enumN {K : PySem.W.Frag} {a : Addr} {xs : List V} {g : TG} {tb : TS} {D : Ends} {σ : St} {H : Hp} (Pv : Nat → St → Hp → Prop) (h0 : Pv 0 σ H) (hl : ∀ i σ H, i ≤ xs.length → Pv i σ H → SqL K H a xs)
    (hs : ∀ i x σ H p, xs[i]? = some x → Pv i σ H → H p = none → ∀ D' : Ends, (∀ σ' H', Pv (i + 1) σ' H' → D'.nx σ' H') → g (.ref p) σ (upd H p (.tup [.int (i : Int), x])) fun σ2 H2 => tb D' σ2 H2) (hd : ∀ σ H, Pv xs.length σ H → D.nx σ H) :
    ∃ W : Nat → Nat → St → Hp → Prop, (∃ m, W 0 m σ H) ∧ ∀ i m σ H, W i m σ H →
      ((Ite K a xs).stop i H ∧ D.nx σ H) ∨ ((Ite K a xs).go i H ∧ ∃ N : St → Hp → Prop, (∀ σ' H', N σ' H' → ∃ m', m' < m ∧ W (i + 1) m' σ' H') ∧ ∀ x H', (Ite K a xs).yld i H x H' → g x σ H' fun σ2 H2 => tb { D with nx := N, ct := N, bk := D.nx } σ2 H2) := by
  refine ⟨fun i m σ H => m = xs.length - i ∧ i ≤ xs.length ∧ Pv i σ H, ⟨xs.length, by simp, Nat.zero_le _, h0⟩, ?_⟩
  rintro i m σ H ⟨rfl, hi, p⟩
  have q := hl i σ H hi p
  by_cases hlt : i < xs.length
  · refine .inr ⟨⟨hlt, q⟩, Pv (i + 1), fun σ' H' p' => ⟨xs.length - (i + 1), by omega, rfl, hlt, p'⟩, fun x H' y => ?_⟩
    obtain ⟨c, y, hc, ey, rfl, rfl⟩ := y
    exact hs i y σ H c ey p hc _ fun _ _ z => z
  · have e : i = xs.length := by omega
    subst e
    exact .inl ⟨⟨rfl, q⟩, hd σ H p⟩
end L2
namespace L2
open PySem PySem.Spec PyProof.Rows
section
variable {X : Cx}
end
end L2
namespace L2
open PySem PySem.Spec PyProof.Rows
end L2
set_option Elab.async false
set_option linter.all false
set_option maxRecDepth 100000
set_option maxHeartbeats 4000000
namespace Com
open PySem L2
def reachN (rows : List (List Int)) : Nat → Nat → Bool
  | 0, _ => false
  | k + 1, i => (rows.getD i []).any fun e => e == -1 || (decide (0 ≤ e) && reachN rows k e.toNat)
theorem reachN_mono (rows : List (List Int)) : ∀ (k : Nat) (i : Nat), reachN rows k i = true → reachN rows (k + 1) i = true
  | 0, i, h => by cases h
  | k + 1, i, h => by
    unfold reachN at h ⊢
    obtain ⟨e, he, q⟩ := List.any_eq_true.mp h
    refine List.any_eq_true.mpr ⟨e, he, ?_⟩
    rw [Bool.or_eq_true, Bool.and_eq_true] at q ⊢
    rcases q with q | ⟨q1, q2⟩
    · exact .inl q
    · exact .inr ⟨q1, reachN_mono rows k _ q2⟩
theorem reachN_le (rows : List (List Int)) {j k : Nat} (h : j ≤ k) {i : Nat} (q : reachN rows j i = true) : reachN rows k i = true := by
  induction h with
  | refl => exact q
  | step _ ih => exact reachN_mono rows _ i ih
theorem reachN_lt {rows : List (List Int)} {k i : Nat} (h : reachN rows k i = true) : i < rows.length := by
  cases k with
  | zero => cases h
  | succ k =>
    unfold reachN at h
    obtain ⟨e, he, _⟩ := List.any_eq_true.mp h
    by_cases hi : i < rows.length
    · exact hi
    · have e0 : rows.getD i [] = [] := by simp [List.getElem?_eq_none (by omega : rows.length ≤ i)]
      rw [e0] at he
      cases he
def Still (rows : List (List Int)) (k : Nat) : Prop := ∀ i, reachN rows (k + 1) i = true → reachN rows k i = true
theorem Still.next {rows : List (List Int)} {k : Nat} (h : Still rows k) : Still rows (k + 1) := fun i q => by
  rw [reachN] at q
  obtain ⟨e, he, q⟩ := List.any_eq_true.mp q
  rw [reachN]
  refine List.any_eq_true.mpr ⟨e, he, ?_⟩
  rw [Bool.or_eq_true, Bool.and_eq_true] at q ⊢
  rcases q with q | ⟨q1, q2⟩
  · exact .inl q
  · exact .inr ⟨q1, h _ q2⟩
theorem Still.all {rows : List (List Int)} {k : Nat} (h : Still rows k) : ∀ m, k ≤ m → ∀ i, reachN rows m i = true → reachN rows k i = true := fun m hm => by
  have hs : ∀ d, Still rows (k + d) := fun d => by
    induction d with
    | zero => exact h
    | succ d ih => exact ih.next
  induction hm with
  | refl => exact fun i q => q
  | @step m hm ih =>
    intro i q
    have e : m = k + (m - k) := by have : k ≤ m := hm; omega
    have hs' := hs (m - k)
    rw [← e] at hs'
    exact ih i (hs' i q)
def cnt (rows : List (List Int)) (k : Nat) : Nat := ((List.range rows.length).filter (reachN rows k)).length
theorem cnt_le (rows : List (List Int)) (k : Nat) : cnt rows k ≤ rows.length := by
  unfold cnt
  exact Nat.le_trans (List.length_filter_le _ _) (by simp)
theorem filter_le {p q : Nat → Bool} (h : ∀ i, p i = true → q i = true) : ∀ l : List Nat, (l.filter p).length ≤ (l.filter q).length
  | [] => Nat.le_refl _
  | a :: l => by
    have ih := filter_le h l
    rw [List.filter_cons, List.filter_cons]
    cases hp : p a with
    | true =>
      rw [h a hp, if_pos rfl, if_pos rfl, List.length_cons, List.length_cons]
      omega
    | false =>
      rw [if_neg Bool.false_ne_true]
      split
      · rw [List.length_cons]; omega
      · exact ih
theorem filter_lt {p q : Nat → Bool} (h : ∀ i, p i = true → q i = true) : ∀ (l : List Nat) (x : Nat), x ∈ l → p x = false → q x = true → (l.filter p).length < (l.filter q).length
  | a :: l, x, hx, hp, hq => by
    rw [List.filter_cons, List.filter_cons]
    rcases List.mem_cons.mp hx with rfl | hx
    · rw [hp, hq, if_neg Bool.false_ne_true, if_pos rfl, List.length_cons]
      have := filter_le h l
      omega
    · have ih := filter_lt h l x hx hp hq
      cases hpa : p a with
      | true =>
        rw [h a hpa, if_pos rfl, if_pos rfl, List.length_cons, List.length_cons]
        omega
      | false =>
        rw [if_neg Bool.false_ne_true]
        split
        · rw [List.length_cons]; omega
        · exact ih
theorem cnt_lt {rows : List (List Int)} {k i : Nat} (h1 : reachN rows (k + 1) i = true) (h0 : reachN rows k i = false) : cnt rows k < cnt rows (k + 1) :=
  filter_lt (fun j => reachN_mono rows k j) _ i (List.mem_range.mpr (reachN_lt h1)) h0 h1
theorem still_or {rows : List (List Int)} (k : Nat) : Still rows k ∨ cnt rows k < cnt rows (k + 1) := by
  by_cases h : Still rows k
  · exact .inl h
  · right
    unfold Still at h
    have : ∃ i, reachN rows (k + 1) i = true ∧ ¬ reachN rows k i = true := Classical.byContradiction fun hn => h fun i q => Classical.byContradiction fun hk => hn ⟨i, q, hk⟩
    obtain ⟨i, h1, h0⟩ := this
    exact cnt_lt h1 (by simpa using h0)
theorem still_by {rows : List (List Int)} : ∀ k, (∃ j, j ≤ k ∧ Still rows j) ∨ k < cnt rows (k + 1)
  | 0 => by
    rcases still_or (rows := rows) 0 with h | h
    · exact .inl ⟨0, Nat.le_refl _, h⟩
    · exact .inr (by omega)
  | k + 1 => by
    rcases still_by (rows := rows) k with ⟨j, hj, h⟩ | h
    · exact .inl ⟨j, by omega, h⟩
    · rcases still_or (rows := rows) (k + 1) with h' | h'
      · exact .inl ⟨k + 1, Nat.le_refl _, h'⟩
      · exact .inr (by omega)
theorem still_len (rows : List (List Int)) : Still rows rows.length := by
  rcases still_by (rows := rows) rows.length with ⟨j, hj, h⟩ | h
  · intro i q
    exact reachN_le rows hj (h.all _ (by omega) i q)
  · have := cnt_le rows (rows.length + 1)
    omega
def rch (rows : List (List Int)) (i : Nat) : Bool := reachN rows rows.length i
theorem rch_of {rows : List (List Int)} {k i : Nat} (h : reachN rows k i = true) : rch rows i = true := by
  unfold rch
  by_cases hk : k ≤ rows.length
  · exact reachN_le rows hk h
  · exact (still_len rows).all k (by omega) i h
theorem rch_step {rows : List (List Int)} {i : Nat} {e : Int} (he : e ∈ rows.getD i []) (h : e = -1 ∨ 0 ≤ e ∧ rch rows e.toNat = true) : rch rows i = true := by
  refine rch_of (k := rows.length + 1) ?_
  rw [reachN]
  refine List.any_eq_true.mpr ⟨e, he, ?_⟩
  rw [Bool.or_eq_true, Bool.and_eq_true]
  rcases h with h | ⟨h1, h2⟩
  · exact .inl (by rw [h]; rfl)
  · exact .inr ⟨decide_eq_true h1, h2⟩
end Com
set_option Elab.async false
set_option linter.all false
set_option maxRecDepth 100000
set_option maxHeartbeats 4000000
namespace Com
open PySem L2
def TurnsOk (rows : List (List Int)) (ts : List Int) : Prop := ts.length = rows.length ∧ ∀ i, i < rows.length → 0 ≤ ts.getD i 0 ∧ ts.getD i 0 < ((rows.getD i []).length : Int)
end Com
set_option Elab.async false
set_option linter.all false
set_option maxRecDepth 100000
set_option maxHeartbeats 4000000
namespace L2
open PySem PySem.Spec PyProof.Rows
section
variable {X : Cx} {pins : List (Addr × Obj)} {σ : St} {H : Hp} {s : Shared} {tg elt iter : Expr} {g : TG} {ifs : List Expr} {scope : Scope} {pos : Pos} {N' : List Str} {ix : List (Option Nat)} {wi : TI} {ti : TT} {te : TE}
end
end L2
set_option Elab.async false
set_option linter.all false
set_option maxRecDepth 100000
set_option maxHeartbeats 4000000
namespace L2
open PySem PySem.Spec PyProof.Rows
section
variable {X : Cx}
end
end L2
set_option Elab.async false
set_option linter.all false
set_option maxRecDepth 100000
set_option maxHeartbeats 4000000
namespace L2
open PySem PySem.Spec PyProof.Rows
section
variable {X : Cx}
end
end L2
set_option Elab.async false
set_option linter.all false
set_option maxRecDepth 100000
set_option maxHeartbeats 4000000
namespace L2
open PySem PySem.Spec PyProof.Rows
theorem hnd_pins {hd : Option Value} {h : Heap} (c : HndAt hd h) : ∃ L : List (Addr × Obj), (∀ p ∈ L, h.get? p.1 = some p.2 ∧ ∃ D, p.2.cls = .ref D) ∧ ∀ h' : Heap, (∀ p ∈ L, h'.get? p.1 = some p.2) → HndAt hd h' := by
  rcases c with c | ⟨e, c, o, vs, D, a1, a2, a3, a4⟩
  · exact ⟨[], fun p z => (by cases z), fun _ _ => .inl c⟩
  · rcases a4 with a4 | ⟨r, o2, ws, D2, b1, b2, b3, b4, b5⟩
    · refine ⟨[(e, o)], fun p z => ?_, fun h' k => .inr ⟨e, c, o, vs, D, k (e, o) List.mem_cons_self, a2, a3, .inl a4⟩⟩
      rw [List.mem_singleton.mp z]
      exact ⟨a1, D, a2⟩
    · refine ⟨[(e, o), (r, o2)], fun p z => ?_, fun h' k => .inr ⟨e, c, o, vs, D, k (e, o) List.mem_cons_self, a2, a3, .inr ⟨r, o2, ws, D2, b1, b2, k (r, o2) (List.mem_cons_of_mem _ List.mem_cons_self), b4, b5⟩⟩⟩
      rcases List.mem_cons.mp z with z | z
      · rw [z]; exact ⟨a1, D, a2⟩
      · rw [List.mem_singleton.mp z]; exact ⟨b3, D2, b4⟩
theorem walksH {prog : Program} {w : World} {A : Around} {L : List (Addr × Obj)} (hc : ∀ p ∈ L, ∃ D, p.2.cls = .ref D) (hh : ∀ h' : Heap, (∀ p ∈ L, h'.get? p.1 = some p.2) → HndAt A.handled h') (I ax : Addr) (ne : ax ≠ I) (its : Array Value) :
    Walks prog w A I (I :: ax :: L.map (·.1)) [I] its.size (fun i v => its[i]? = some v) (fun i h => h.IsListIter I ax i ∧ h.IsList ax its ∧ ∀ p ∈ L, h.get? p.1 = some p.2) where
  sub := fun b hb => by rw [List.mem_singleton.mp hb]; exact List.mem_cons_self
  frame := fun _ _ _ st k => ⟨st.1.at fun o e => k I List.mem_cons_self o e, st.2.1.at fun o e => k ax (List.mem_cons_of_mem _ List.mem_cons_self) o e, fun p hp => k p.1 (List.mem_cons_of_mem _ (List.mem_cons_of_mem _ (List.mem_map_of_mem hp))) _ (st.2.2 p hp)⟩
  item := fun i s Q E hi st hQ => by
    have nI : ∀ p ∈ L, p.1 ≠ I := fun p hp z => by
      obtain ⟨o, g, c, _⟩ := st.1
      obtain ⟨D, d⟩ := hc p hp
      have := st.2.2 p hp
      rw [z, g] at this
      cases this
      rw [c] at d
      cases d
    refine wpAny_pyNext_list_item st.1 st.2.1 (x := its[i]) (by simp [hi]) fun h' it' sb => ?_
    exact hQ _ h' s.toks (by simp [hi]) ⟨it', st.2.1.extBut sb.extBut ne, fun p hp => (sb.2 p.1 (nI p hp)).trans (st.2.2 p hp)⟩ fun b o hb e => sb.extBut b o (fun z => hb (by simp [z])) e
  done := fun s Q E st hQ => listEnd (hh _ st.2.2) st.1 st.2.1 (by simp) fun h' he' => hQ h' s.toks fun b o hb e => he' b o (fun z => hb (by simp [z])) e
  self := fun _ _ _ _ st hQ => wpAny_pyIter_listiter st.1 hQ
section
variable {prog : Program} {w : World} {A : Around} {E : Value → Shared → Prop} {s : Shared} {l : Addr} {xs : Array (Int × Tok)}
theorem minH {Q : Value → Shared → Prop} (hh : HndAt A.handled s.heap) (hl : s.heap.IsList l (intItems xs)) (h0 : 0 < xs.size)
    (h : ∀ v h' tk, (intItems xs)[argBest (fun i j => decide (numAt xs i < numAt xs j)) (xs.size - 1)]? = some v → (∀ b o, s.heap.get? b = some o → h'.get? b = some o) → Q v { s with heap := h', toks := tk }) : wpAny (model prog w) A (call (.builtin "min") [.ref l]) Q E s := by
  obtain ⟨L, k1, k2⟩ := hnd_pins hh
  refine call_min_walk (iter_intList hl fun s2 e st hfp hn => ?_)
  subst e
  refine ⟨_, _, _, _, _, _, _, rfl, walksH (A := A.in1) (fun p hp => (k1 p hp).2) k2 _ l hn (intItems xs), ⟨st.1, st.2, fun p hp => Heap.get?_push_of_some _ (k1 p hp).1⟩, fun b hb => ?_, by simpa [intItems] using h0, CmpOf.ints_lt (numAt xs) (fun _ _ => intItems_at), fun v h' tk hP hk => h v h' tk (by simpa [intItems] using hP) (old_kept hk)⟩
  rcases List.mem_cons.mp hb with z | z
  · exact hfp b (by rw [z]; exact List.mem_cons_self)
  · rcases List.mem_cons.mp z with z | z
    · exact hfp b (by rw [z]; exact List.mem_cons_of_mem _ List.mem_cons_self)
    · obtain ⟨p, hp, rfl⟩ := List.mem_map.mp z
      exact Heap.lt_size (Heap.get?_push_of_some _ (k1 p hp).1)
theorem maxH {Q : Value → Shared → Prop} (hh : HndAt A.handled s.heap) (hl : s.heap.IsList l (intItems xs)) (h0 : 0 < xs.size)
    (h : ∀ v h' tk, (intItems xs)[argBest (fun i j => decide (numAt xs i > numAt xs j)) (xs.size - 1)]? = some v → (∀ b o, s.heap.get? b = some o → h'.get? b = some o) → Q v { s with heap := h', toks := tk }) : wpAny (model prog w) A (call (.builtin "max") [.ref l]) Q E s := by
  obtain ⟨L, k1, k2⟩ := hnd_pins hh
  refine call_max_walk (iter_intList hl fun s2 e st hfp hn => ?_)
  subst e
  refine ⟨_, _, _, _, _, _, _, rfl, walksH (A := A.in1) (fun p hp => (k1 p hp).2) k2 _ l hn (intItems xs), ⟨st.1, st.2, fun p hp => Heap.get?_push_of_some _ (k1 p hp).1⟩, fun b hb => ?_, by simpa [intItems] using h0, CmpOf.ints_gt (numAt xs) (fun _ _ => intItems_at), fun v h' tk hP hk => h v h' tk (by simpa [intItems] using hP) (old_kept hk)⟩
  rcases List.mem_cons.mp hb with z | z
  · exact hfp b (by rw [z]; exact List.mem_cons_self)
  · rcases List.mem_cons.mp z with z | z
    · exact hfp b (by rw [z]; exact List.mem_cons_of_mem _ List.mem_cons_self)
    · obtain ⟨p, hp, rfl⟩ := List.mem_map.mp z
      exact Heap.lt_size (Heap.get?_push_of_some _ (k1 p hp).1)
end
section
variable {X : Cx}
theorem call_maxU {K : PySem.W.Frag} (hK : X.K = K) (hc : X.mild = true) : CallR X (.builtin "max") (fun xs H Q => ∃ (p : Addr) (ns : List Int), xs = [.ref p] ∧ SqL K H p (ns.map V.int) ∧ 0 < ns.length ∧ ∀ M, M ∈ ns → (∀ a ∈ ns, a ≤ M) → Q (.int M) H) := by
  subst hK
  intro pins s σ H xs us Q I r h
  obtain ⟨p, ns, rfl, hq, hne, q⟩ := h
  obtain ⟨u, rfl, rx⟩ := vals1 r
  cases rx
  obtain ⟨its, rv, pl, hz⟩ := I.list hq
  have hi := intsAre_of rv
  obtain ⟨xs', hx⟩ := hi.allInts.items
  have hl' : s.heap.IsList p (intItems xs') := hx ▸ pl.isList
  have e1 : ns = xs'.toList.map (·.1) := by
    rw [← nums_intItems, ← hx]
    exact (show numsOf its.toArray.toList = ns from hi.numsOf).symm
  have hsz : 0 < xs'.size := by
    have h3 := hne; rw [e1, List.length_map, Array.length_toList] at h3; exact h3
  refine maxH (I.chain hc) hl' hsz fun v h' tk hv hk => ?_
  obtain ⟨t, rfl⟩ := intItems_at hv
  obtain ⟨h1, h2⟩ := argBest_gt (numAt xs') (xs'.size - 1)
  refine ⟨.int _, H, I.kept hk, ⟨_, rfl⟩, q _ ?_ fun a ha => ?_⟩
  · rw [e1, numAt_eq]; exact getD_mem (by rw [List.length_map, Array.length_toList]; omega)
  · rw [e1] at ha
    obtain ⟨j, hj, rfl⟩ := mem_getD ha
    rw [List.length_map, Array.length_toList] at hj
    rw [← numAt_eq]; exact h2 j (by omega)
theorem call_minU {K : PySem.W.Frag} (hK : X.K = K) (hc : X.mild = true) : CallR X (.builtin "min") (fun xs H Q => ∃ (p : Addr) (ns : List Int), xs = [.ref p] ∧ SqL K H p (ns.map V.int) ∧ 0 < ns.length ∧ ∀ M, M ∈ ns → (∀ a ∈ ns, M ≤ a) → Q (.int M) H) := by
  subst hK
  intro pins s σ H xs us Q I r h
  obtain ⟨p, ns, rfl, hq, hne, q⟩ := h
  obtain ⟨u, rfl, rx⟩ := vals1 r
  cases rx
  obtain ⟨its, rv, pl, hz⟩ := I.list hq
  have hi := intsAre_of rv
  obtain ⟨xs', hx⟩ := hi.allInts.items
  have hl' : s.heap.IsList p (intItems xs') := hx ▸ pl.isList
  have e1 : ns = xs'.toList.map (·.1) := by
    rw [← nums_intItems, ← hx]
    exact (show numsOf its.toArray.toList = ns from hi.numsOf).symm
  have hsz : 0 < xs'.size := by
    have h3 := hne; rw [e1, List.length_map, Array.length_toList] at h3; exact h3
  refine minH (I.chain hc) hl' hsz fun v h' tk hv hk => ?_
  obtain ⟨t, rfl⟩ := intItems_at hv
  obtain ⟨h1, h2⟩ := argBest_lt (numAt xs') (xs'.size - 1)
  refine ⟨.int _, H, I.kept hk, ⟨_, rfl⟩, q _ ?_ fun a ha => ?_⟩
  · rw [e1, numAt_eq]; exact getD_mem (by rw [List.length_map, Array.length_toList]; omega)
  · rw [e1] at ha
    obtain ⟨j, hj, rfl⟩ := mem_getD ha
    rw [List.length_map, Array.length_toList] at hj
    rw [← numAt_eq]; exact h2 j (by omega)
end
end L2
set_option Elab.async false
set_option linter.all false
set_option maxRecDepth 100000
set_option maxHeartbeats 4000000
namespace L2
open PySem PySem.Spec PyProof.Rows
section
variable {X : Cx}
theorem pe_bmC {o e : Expr} {es : List Expr} {to : TE} {t : TA} {name : Str} {apos cpos : Pos} {T id : String} {r : V → List V → Hp → VK → Prop} {K : PySem.W.Frag} (hK : X.K = K) (pa : PlainAttrs T) (slot : Slot T name id) (hty : typeOf (.builtin id) = pure (.type "method_descriptor")) (hm : MtR X id r) (ho : PE X o to) (ha : PA X (e :: es) t)
    (hbase : attributeBase o name X.env (eval o X.env) = eval o X.env := by rfl)
    (hfew : ((backTo cpos (starEach (e :: es) X.env)).all (fun x => !x.1) && (backToKw cpos (keywordEach [] X.env)).all (fun x => x.1.isSome)
      && decide ((e :: es).length + ([] : List Keyword).length + (if ([] : List Keyword).isEmpty then 0 else 1) < 30)) = true := by rfl)
    (hline : (apos.endLine == cpos.line) = true := by rfl) (hs : starEach (e :: es) X.env = (false, eval e X.env) :: starEach es X.env := by rfl) (hplain : (backTo cpos (starEach es X.env)).any (·.1) = false := by rfl) :
    PE X (.Call (.Attribute o name apos) (e :: es) [] cpos) (tBM K T r to t) := by
  subst hK
  exact pe_bm pa slot hty hm ho ha hbase hfew hline hs hplain
end
end L2
set_option Elab.async false
set_option linter.all false
set_option maxRecDepth 100000
set_option maxHeartbeats 4000000
namespace L2
open PySem PySem.Spec PyProof.Rows
section
variable {X : Cx}
end
section
variable {X : Cx} {tg elt iter : Expr} {g : TG} {ifs : List Expr} {scope : Scope} {pos : Pos} {wi : TI} {ti : TT} {te : TE}
end
theorem comp_inv {J : It} {xs : List V} {σ' : St} {j : Nat} {ti : TT} {te : TE} {Q : VK} {H : Hp} (W : Wk J xs H) (Pv : Nat → List V → Hp → Prop) (h0 : Pv 0 [] H) (hm : ∀ i ys H3, Pv i ys H3 → Same H H3)
    (hs : ∀ i x ys H3, xs[i]? = some x → Pv i ys H3 → ti (σ'.set j (some x)) H3 fun b H4 => if b = true then te (σ'.set j (some x)) H4 fun y H5 => Pv (i + 1) (ys ++ [y]) H5 else Pv (i + 1) ys H4)
    (hz : ∀ i ys H3, i < xs.length → Pv i ys H3 → ys.length < sizeLine)
    (hd : ∀ ys H3, Pv xs.length ys H3 → ∀ D, H3 D = none → Q (.ref D) (upd H3 D (.lst ys))) : CompW σ' j ti te Q J H := by
  refine ⟨fun i m zs H3 => m = xs.length - i ∧ i ≤ xs.length ∧ Pv i zs H3, ⟨xs.length, by simp, Nat.zero_le _, h0⟩, ?_⟩
  rintro i m zs H3 ⟨rfl, hi, p⟩
  have s3 := hm i zs H3 p
  by_cases hlt : i < xs.length
  · refine .inr ⟨W.go i _ s3 hlt, hz i zs H3 hlt p, Pv (i + 1), fun zs' H' p' => ⟨xs.length - (i + 1), by omega, rfl, hlt, p'⟩, fun x H' y => ?_⟩
    obtain ⟨e, ex⟩ := W.yl i _ x H' s3 hlt y
    subst e
    exact hs i x zs H' ex p
  · have e : i = xs.length := by omega
    subst e
    exact .inl ⟨W.st _ s3, fun D hD => hd zs H3 p D hD⟩
end L2
set_option Elab.async false
set_option linter.all false
set_option maxRecDepth 100000
set_option maxHeartbeats 4000000
namespace L2
open PySem PySem.Spec PyProof.Rows
section
variable {X : Cx} {pins : List (Addr × Obj)} {σ : St} {H H' : Hp} {s : Shared}
end
section
variable {X : Cx} {pins : List (Addr × Obj)} {σ : St} {H : Hp} {s : Shared} {tg elt iter : Expr} {g : TG} {ifs : List Expr} {scope : Scope} {pos : Pos} {N' : List Str} {ix : List (Option Nat)} {wi : TI} {ti : TT} {te : TE}
end
end L2
set_option Elab.async false
set_option linter.all false
set_option maxRecDepth 100000
set_option maxHeartbeats 4000000
namespace L2
open PySem PySem.Spec PyProof.Rows
section
variable {X : Cx} {K : PySem.W.Frag}
end
end L2
set_option Elab.async false
set_option linter.all false
set_option maxRecDepth 100000
set_option maxHeartbeats 4000000
namespace L2
open PySem PySem.Spec PyProof.Rows
section
variable {X : Cx} {K : PySem.W.Frag}
theorem strs_of : ∀ {ss : List Str} {its : List Value}, Vals (ss.map V.str) its → ∃ l : List (Str × Tok), its = strValues l ∧ l.map (·.1) = ss
  | [], its, h => by cases h; exact ⟨[], rfl, rfl⟩
  | x :: ss, its, h => by
    cases h with
    | cons r rest =>
      obtain ⟨t, rfl⟩ := r
      obtain ⟨l, rfl, rfl⟩ := strs_of rest
      exact ⟨(x, t) :: l, rfl, rfl⟩
def rJoin (K : PySem.W.Frag) : V → List V → Hp → VK → Prop := fun x xs H Q => ∃ (sep : Str) (l : Addr) (ss : List Str), x = .str sep ∧ xs = [.ref l] ∧ SqL K H l (ss.map V.str) ∧ JoinOk sep ss = true ∧ Q (.str (Str.join sep ss)) H
theorem mt_join : MtR X "str.join" (rJoin X.K) := by
  intro pins s σ H x xs v us Q I rx rs h
  obtain ⟨sep, l, ss, rfl, rfl, hq, hok, q⟩ := h
  obtain ⟨t, rfl⟩ := rx
  obtain ⟨u, rfl, ru⟩ := vals1 rs
  cases ru
  obtain ⟨its, rv, pl, hz⟩ := I.list hq
  obtain ⟨l', rfl, hl'⟩ := strs_of rv
  refine PySem.SC.join (by have := pl.isList; exact this) hl' hok fun t' k => ?_
  have e : Txt.join sep ss = Str.join sep ss := StrLaws.glued_eq_join sep ss
  rw [e]
  exact ⟨.str _, H, I.tok _, ⟨_, rfl⟩, q⟩
theorem mt_joinK (hK : X.K = K) : MtR X "str.join" (rJoin K) := hK ▸ mt_join
theorem joinOk_of {sep : Str} {ss : List Str} {B : Nat} (hB : ∀ y ∈ ss, y.length ≤ B) (h : ss.length * B + ss.length * sep.length ≤ 16777216) : JoinOk sep ss = true := by
  unfold JoinOk
  rw [StrLaws.joinFits hB h]
  rfl
end
end L2
set_option Elab.async false
set_option linter.all false
set_option maxRecDepth 100000
set_option maxHeartbeats 4000000
namespace Com
theorem gD_set_self {α : Type} {l : List α} {i : Nat} {v d : α} (h : i < l.length) : (l.set i v).getD i d = v := by
  simp [List.getD_eq_getElem?_getD, List.getElem?_set, h]
theorem gD_set_ne {α : Type} {l : List α} {i j : Nat} {v d : α} (h : i ≠ j) : (l.set i v).getD j d = l.getD j d := by
  simp [List.getD_eq_getElem?_getD, List.getElem?_set_ne h]
theorem gD_mem {α : Type} {l : List α} {i : Nat} {d : α} (h : i < l.length) : l.getD i d ∈ l := by
  rw [List.getD_eq_getElem?_getD, List.getElem?_eq_getElem h]
  exact List.getElem_mem h
theorem sum_set : ∀ {l : List Int} {i : Nat} {v : Int}, i < l.length → (l.set i v).sum = l.sum - l.getD i 0 + v
  | [], _, _, h => absurd h (by simp)
  | x :: r, 0, v, _ => by
    simp only [List.set_cons_zero, List.sum_cons, List.getD_cons_zero]
    omega
  | x :: r, i + 1, v, h => by
    have ih := sum_set (l := r) (i := i) (v := v) (by simpa using h)
    simp only [List.set_cons_succ, List.sum_cons, List.getD_cons_succ]
    omega
structure BrdOk (b : Brd) : Prop where
  W : Wf b.rows
  T : TurnsOk b.rows b.turns
  L : b.loads.length = b.rows.length
  S : b.steps.length = b.rows.length
  P : ∀ i, 0 ≤ b.loads.getD i 0
theorem le100 {n : Nat} (h : n ≤ 12) : n ≤ 100 := Nat.le_trans h (by decide)
theorem row_len {rows : List (List Int)} (W : Wf rows) {s : Nat} (h : s < rows.length) : 1 ≤ (rows.getD s []).length ∧ (rows.getD s []).length ≤ 8 := ⟨(W.2.2 _ (gD_mem h)).1, (W.2.2 _ (gD_mem h)).2.1⟩
def dropW (c : Int) (f : Int → Int) (r : List Int) (t : Nat) : Int := ((r.take t).map fun e => c - f e - 1).sum
structure Weigh (rows : List (List Int)) (M : Int) (f : Int → Int) (G D1 D2 : Int) : Prop where
  pit : f (-1) = 0
  low : ∀ i, i < rows.length → 0 ≤ f (i : Nat)
  top : ∀ i, i < rows.length → f (i : Nat) ≤ G
  full : ∀ i, i < rows.length → 0 ≤ dropW (f (i : Nat)) f (rows.getD i []) (rows.getD i []).length
  dLow : ∀ i, i < rows.length → ∀ t, t < (rows.getD i []).length → -D1 ≤ dropW (f (i : Nat)) f (rows.getD i []) t
  dTop : ∀ i, i < rows.length → ∀ t, t < (rows.getD i []).length → dropW (f (i : Nat)) f (rows.getD i []) t ≤ D2
  g0 : 0 ≤ G
  all : M * G + (rows.length : Int) * (D1 + D2) ≤ 20000
def Tame (rows : List (List Int)) (M : Int) : Prop := ∃ f G D1 D2, Weigh rows M f G D1 D2
end Com
set_option Elab.async false
set_option linter.all false
set_option maxRecDepth 100000
set_option maxHeartbeats 4000000
namespace Com
def qn (u : Nat → Nat) (n : Nat) : Nat → Nat
  | 0 => 1
  | i + 1 => (1 + u (n - 1 - i)) * qn u n i + 1
theorem qn_pos (u : Nat → Nat) (n : Nat) : ∀ i, 1 ≤ qn u n i
  | 0 => Nat.le_refl _
  | i + 1 => by unfold qn; omega
theorem qn_succ (u : Nat → Nat) (n i : Nat) : qn u n i + 1 ≤ qn u n (i + 1) := by
  show _ ≤ (1 + u (n - 1 - i)) * qn u n i + 1
  rw [Nat.add_mul]
  omega
theorem qn_mono (u : Nat → Nat) (n : Nat) {i j : Nat} (h : i ≤ j) : qn u n i ≤ qn u n j := by
  induction j with
  | zero => rw [show i = 0 by omega]; exact Nat.le_refl _
  | succ j ih =>
    by_cases e : i = j + 1
    · rw [e]; exact Nat.le_refl _
    · have := ih (by omega)
      have := qn_succ u n j
      omega
def ups (k : Int) (r : List Int) : Nat := (r.filter fun e => decide (k ≤ e)).length
def sumU (u : Nat → Nat) : Nat → Nat
  | 0 => 0
  | n + 1 => sumU u n + u n
theorem qn_small {u : Nat → Nat} {n : Nat} (h : ∀ i, i < n → u i ≤ 2) : ∀ i, i ≤ n → 2 * qn u n i + 1 ≤ 3 ^ (i + 1)
  | 0, _ => by show 2 * 1 + 1 ≤ 3 ^ 1; decide
  | i + 1, hi => by
    have ih := qn_small h i (by omega)
    have hu := h (n - 1 - i) (by omega)
    show 2 * ((1 + u (n - 1 - i)) * qn u n i + 1) + 1 ≤ 3 ^ (i + 1 + 1)
    have := Nat.mul_le_mul_right (qn u n i) (show 1 + u (n - 1 - i) ≤ 3 by omega)
    rw [Nat.pow_succ]
    omega
theorem qn_big {u : Nat → Nat} {n : Nat} : ∀ i s, i ≤ n → sumU u (n - i) + s = sumU u n → qn u n i ≤ (i + 1) * 2 ^ s
  | 0, s, _, _ => by show 1 ≤ 1 * 2 ^ s; have := Nat.one_le_two_pow (n := s); omega
  | i + 1, s, hi, hs => by
    have e : n - i = (n - (i + 1)) + 1 := by omega
    have e2 : sumU u (n - i) = sumU u (n - (i + 1)) + u (n - (i + 1)) := by rw [e]; rfl
    have e3 : sumU u (n - i) ≤ sumU u n := by
      have key : ∀ a b, a ≤ b → sumU u a ≤ sumU u b := by
        intro a b h
        induction b with
        | zero => rw [show a = 0 by omega]; exact Nat.le_refl _
        | succ b ih =>
          by_cases z : a = b + 1
          · rw [z]; exact Nat.le_refl _
          · have := ih (by omega)
            show sumU u a ≤ sumU u b + u b
            omega
      exact key _ _ (by omega)
    have ih := qn_big (u := u) (n := n) i (sumU u n - sumU u (n - i)) (by omega) (by omega)
    have e4 : s = u (n - 1 - i) + (sumU u n - sumU u (n - i)) := by
      rw [show n - 1 - i = n - (i + 1) by omega]; omega
    show (1 + u (n - 1 - i)) * qn u n i + 1 ≤ (i + 1 + 1) * 2 ^ s
    rw [e4, Nat.pow_add]
    generalize sumU u n - sumU u (n - i) = s' at ih
    generalize u (n - 1 - i) = v
    have hv : 1 + v ≤ 2 ^ v := by have := Nat.lt_two_pow_self (n := v); omega
    have g1 : (1 + v) * qn u n i ≤ 2 ^ v * ((i + 1) * 2 ^ s') := Nat.mul_le_mul hv ih
    have g2 : 2 ^ v * ((i + 1) * 2 ^ s') = (i + 1) * (2 ^ v * 2 ^ s') := by rw [Nat.mul_left_comm]
    have g3 : 1 ≤ 2 ^ v * 2 ^ s' := Nat.mul_pos Nat.one_le_two_pow Nat.one_le_two_pow
    rw [Nat.add_mul (i + 1) 1]
    omega
theorem drop_lo (g : Int → Int) (k X : Int) : ∀ r : List Int, (∀ e ∈ r, e < k → 0 ≤ g e) → (∀ e ∈ r, k ≤ e → -X ≤ g e) → -((ups k r : Int) * X) ≤ (r.map g).sum
  | [], _, _ => by simp [ups]
  | e :: r, h1, h2 => by
    have ih := drop_lo g k X r (fun x hx => h1 x (List.mem_cons_of_mem _ hx)) (fun x hx => h2 x (List.mem_cons_of_mem _ hx))
    rw [List.map_cons, List.sum_cons]
    by_cases z : k ≤ e
    · have : ups k (e :: r) = ups k r + 1 := by simp [ups, z]
      rw [this, show ((ups k r + 1 : Nat) : Int) = (ups k r : Int) + 1 by omega, Int.add_mul]
      have := h2 e List.mem_cons_self z
      omega
    · have : ups k (e :: r) = ups k r := by unfold ups; rw [List.filter_cons_of_neg (by simpa using z)]
      rw [this]
      have := h1 e List.mem_cons_self (by omega)
      omega
theorem drop_one (g : Int → Int) (k X Y : Int) (hY : 0 ≤ Y) : ∀ r : List Int, (∃ e ∈ r, e < k) → (∀ e ∈ r, e < k → Y ≤ g e) → (∀ e ∈ r, k ≤ e → -X ≤ g e) → Y - (ups k r : Int) * X ≤ (r.map g).sum
  | [], ⟨e, he, _⟩, _, _ => by cases he
  | e :: r, hx, h1, h2 => by
    rw [List.map_cons, List.sum_cons]
    by_cases z : k ≤ e
    · have : ups k (e :: r) = ups k r + 1 := by simp [ups, z]
      rw [this, show ((ups k r + 1 : Nat) : Int) = (ups k r : Int) + 1 by omega, Int.add_mul]
      have ih := drop_one g k X Y hY r (by
        obtain ⟨x, hx, hl⟩ := hx
        rcases List.mem_cons.mp hx with y | y
        · omega
        · exact ⟨x, y, hl⟩) (fun x hx => h1 x (List.mem_cons_of_mem _ hx)) (fun x hx => h2 x (List.mem_cons_of_mem _ hx))
      have := h2 e List.mem_cons_self z
      omega
    · have : ups k (e :: r) = ups k r := by unfold ups; rw [List.filter_cons_of_neg (by simpa using z)]
      rw [this]
      have ih := drop_lo g k X r (fun x hx hl => Int.le_trans hY (h1 x (List.mem_cons_of_mem _ hx) hl)) (fun x hx => h2 x (List.mem_cons_of_mem _ hx))
      have := h1 e List.mem_cons_self (by omega)
      omega
theorem drop_hi (g : Int → Int) (G : Int) (hG : 0 ≤ G) : ∀ r : List Int, (∀ e ∈ r, g e ≤ G) → (r.map g).sum ≤ (r.length : Int) * G
  | [], _ => by simp
  | e :: r, h => by
    have ih := drop_hi g G hG r fun x hx => h x (List.mem_cons_of_mem _ hx)
    have := h e List.mem_cons_self
    rw [List.map_cons, List.sum_cons, List.length_cons, show ((r.length + 1 : Nat) : Int) = (r.length : Int) + 1 by omega, Int.add_mul]
    omega
theorem ups_take (k : Int) (r : List Int) (t : Nat) : ups k (r.take t) ≤ ups k r := ((List.take_sublist t r).filter _).length_le
def Shape (rows : List (List Int)) (u : Nat → Nat) : Prop := ∀ k, k < rows.length → ups (k : Nat) (rows.getD k []) ≤ u k ∧ u k ≤ 3 ∧ ∃ e ∈ rows.getD k [], e < (k : Int)
theorem term_of {n e i : Int} {qn0 qe qi u : Int} (k4 : e < i → (1 + u) * qi + 1 ≤ qe) (k1 : 1 ≤ qe) (k3 : qe ≤ qn0) (k2 : 1 ≤ qi) : (e < i → u * qi ≤ (qn0 - qi) - (qn0 - qe) - 1) ∧ (i ≤ e → -qi ≤ (qn0 - qi) - (qn0 - qe) - 1) ∧ (qn0 - qi) - (qn0 - qe) - 1 ≤ qn0 - 1 := by
  refine ⟨fun h => ?_, fun _ => by omega, by omega⟩
  have := k4 h
  rw [Int.add_mul] at this
  omega
theorem shape_tame {rows : List (List Int)} {u : Nat → Nat} {M : Int} (W : Wf rows) (S : Shape rows u) (hb : (M + 10 * (rows.length : Int)) * ((qn u rows.length rows.length : Int) - 1) ≤ 20000) : Tame rows M := by
  generalize hn : rows.length = n at hb
  have q1 : ∀ i, 1 ≤ qn u n i := qn_pos u n
  have qm : ∀ {i j : Nat}, i ≤ j → qn u n i ≤ qn u n j := fun {i j} h => qn_mono u n h
  have qs : ∀ i, i < n → qn u n (n - 1 - i + 1) = (1 + u i) * qn u n (n - 1 - i) + 1 := fun i hi => by
    show (1 + u (n - 1 - (n - 1 - i))) * qn u n (n - 1 - i) + 1 = _
    rw [show n - 1 - (n - 1 - i) = i by omega]
  have qt : ∀ i, i < n → qn u n (n - 1 - i) + 1 ≤ qn u n n := fun i hi => Nat.le_trans (qn_succ u n (n - 1 - i)) (qm (by omega))
  generalize qn u n = q at q1 qm qs qt hb
  have gn : (1 : Int) ≤ q n := by have := q1 n; omega
  have fk : ∀ i : Nat, (q n : Int) - (q ((n : Int) - 1 - (i : Nat)).toNat : Int) = (q n : Int) - (q (n - 1 - i) : Int) := fun i => by
    rw [show ((n : Int) - 1 - (i : Nat)).toNat = n - 1 - i by omega]
  have hex : ∀ i, i < n → ∀ e ∈ rows.getD i [], -1 ≤ e ∧ e < (n : Int) := fun i hi e he => by
    have := (W.2.2 _ (gD_mem (show i < rows.length by rw [hn]; exact hi))).2.2 e he
    rw [hn] at this
    exact this
  have hlen : ∀ i, i < n → (rows.getD i []).length ≤ 8 := fun i hi => (row_len W (by rw [hn]; exact hi)).2
  have hsh : ∀ i, i < n → ups (i : Nat) (rows.getD i []) ≤ u i ∧ u i ≤ 3 ∧ ∃ e ∈ rows.getD i [], e < (i : Int) := fun i hi => S i (by rw [hn]; exact hi)
  clear S W
  have term : ∀ i, i < n → ∀ e ∈ rows.getD i [], (e < (i : Int) → (u i : Int) * (q (n - 1 - i) : Int) ≤ ((q n : Int) - (q (n - 1 - i) : Int)) - ((q n : Int) - (q ((n : Int) - 1 - e).toNat : Int)) - 1) ∧ (((i : Nat) : Int) ≤ e → -(q (n - 1 - i) : Int) ≤ ((q n : Int) - (q (n - 1 - i) : Int)) - ((q n : Int) - (q ((n : Int) - 1 - e).toNat : Int)) - 1) ∧ ((q n : Int) - (q (n - 1 - i) : Int)) - ((q n : Int) - (q ((n : Int) - 1 - e).toNat : Int)) - 1 ≤ (q n : Int) - 1 := fun i hi e he => by
    obtain ⟨e0, e1⟩ := hex i hi e he
    have k1 := q1 ((n : Int) - 1 - e).toNat
    have k2 := q1 (n - 1 - i)
    have k3 : q ((n : Int) - 1 - e).toNat ≤ q n := qm (by omega)
    refine term_of (n := n) (fun h => ?_) (by omega) (by omega) (by omega)
    have k4 : q (n - 1 - i + 1) ≤ q ((n : Int) - 1 - e).toNat := qm (by omega)
    rw [qs i hi] at k4
    have k5 : (((1 + u i) * q (n - 1 - i) + 1 : Nat) : Int) ≤ (q ((n : Int) - 1 - e).toNat : Int) := Int.ofNat_le.mpr k4
    simpa using k5
  refine ⟨fun e => (q n : Int) - (q ((n : Int) - 1 - e).toNat : Int), (q n : Int) - 1, 3 * ((q n : Int) - 1), 7 * ((q n : Int) - 1), ?_⟩
  refine ⟨?_, fun i hi => ?_, fun i hi => ?_, fun i hi => ?_, fun i hi t ht => ?_, fun i hi t ht => ?_, by omega, ?_⟩
  · show (q n : Int) - (q ((n : Int) - 1 - -1).toNat : Int) = 0
    rw [show ((n : Int) - 1 - -1).toNat = n by omega]
    omega
  · rw [hn] at hi
    rw [fk]
    have := qt i hi
    omega
  · rw [hn] at hi
    rw [fk]
    have := q1 (n - 1 - i)
    omega
  · rw [hn] at hi
    obtain ⟨s1, s2, s3⟩ := hsh i hi
    have z := drop_one (fun e => ((q n : Int) - (q (n - 1 - i) : Int)) - ((q n : Int) - (q ((n : Int) - 1 - e).toNat : Int)) - 1) (i : Nat) (q (n - 1 - i) : Int) ((u i : Int) * (q (n - 1 - i) : Int)) (Int.mul_nonneg (Int.natCast_nonneg _) (Int.natCast_nonneg _)) (rows.getD i []) s3 (fun e he => (term i hi e he).1) (fun e he => (term i hi e he).2.1)
    unfold dropW
    dsimp only
    rw [List.take_length, fk]
    have m : (ups (i : Nat) (rows.getD i []) : Int) * (q (n - 1 - i) : Int) ≤ (u i : Int) * (q (n - 1 - i) : Int) := Int.mul_le_mul_of_nonneg_right (Int.ofNat_le.mpr s1) (Int.natCast_nonneg _)
    exact Int.le_trans (Int.sub_nonneg.mpr m) z
  · rw [hn] at hi
    obtain ⟨s1, s2, s3⟩ := hsh i hi
    have z := drop_lo (fun e => ((q n : Int) - (q (n - 1 - i) : Int)) - ((q n : Int) - (q ((n : Int) - 1 - e).toNat : Int)) - 1) (i : Nat) (q (n - 1 - i) : Int) ((rows.getD i []).take t) (fun e he h => Int.le_trans (Int.mul_nonneg (Int.natCast_nonneg _) (Int.natCast_nonneg _)) ((term i hi e (List.mem_of_mem_take he)).1 h)) (fun e he => (term i hi e (List.mem_of_mem_take he)).2.1)
    have z2 : ups (i : Nat) ((rows.getD i []).take t) ≤ 3 := Nat.le_trans (ups_take (i : Nat) (rows.getD i []) t) (Nat.le_trans s1 s2)
    have z3 := qt i hi
    have m : (ups (i : Nat) ((rows.getD i []).take t) : Int) * (q (n - 1 - i) : Int) ≤ 3 * ((q n : Int) - 1) := Int.mul_le_mul (Int.ofNat_le.mpr z2) (by omega) (Int.natCast_nonneg _) (by decide)
    unfold dropW
    dsimp only
    rw [fk]
    exact Int.le_trans (Int.neg_le_neg m) z
  · rw [hn] at hi
    have hl := hlen i hi
    have z := drop_hi (fun e => ((q n : Int) - (q (n - 1 - i) : Int)) - ((q n : Int) - (q ((n : Int) - 1 - e).toNat : Int)) - 1) ((q n : Int) - 1) (by omega) ((rows.getD i []).take t) (fun e he => (term i hi e (List.mem_of_mem_take he)).2.2)
    rw [List.length_take] at z
    have m : ((min t (rows.getD i []).length : Nat) : Int) * ((q n : Int) - 1) ≤ 7 * ((q n : Int) - 1) := Int.mul_le_mul_of_nonneg_right (by omega) (by omega)
    unfold dropW
    dsimp only
    rw [fk]
    exact Int.le_trans z m
  · rw [hn]
    have e : M * ((q n : Int) - 1) + (n : Int) * (3 * ((q n : Int) - 1) + 7 * ((q n : Int) - 1)) = (M + 10 * (n : Int)) * ((q n : Int) - 1) := by
      rw [← Int.add_mul, Int.add_mul M, ← Int.mul_assoc, Int.mul_comm (n : Int) (3 + 7)]
      rfl
    rw [e]
    exact hb
theorem tame_small {rows : List (List Int)} {u : Nat → Nat} (W : Wf rows) (S : Shape rows u) (hn : rows.length ≤ 4) (hu : ∀ i, i < rows.length → u i ≤ 2) : Tame rows 30 := by
  refine shape_tame W S ?_
  have h := qn_small hu rows.length (Nat.le_refl _)
  have h3 : (3 : Nat) ^ (rows.length + 1) ≤ 3 ^ 5 := Nat.pow_le_pow_right (by decide) (by omega)
  have h4 : (3 : Nat) ^ 5 = 243 := by decide
  have hp := qn_pos u rows.length rows.length
  exact Int.le_trans (Int.mul_le_mul (show (30 : Int) + 10 * (rows.length : Int) ≤ 70 by omega) (show (qn u rows.length rows.length : Int) - 1 ≤ 120 by omega) (by omega) (by decide)) (by decide)
theorem tame_big {rows : List (List Int)} {u : Nat → Nat} (W : Wf rows) (S : Shape rows u) (hu : sumU u rows.length ≤ 3) : Tame rows 30 := by
  refine shape_tame W S ?_
  have h := qn_big (u := u) (n := rows.length) rows.length (sumU u rows.length) (Nat.le_refl _) (by simp [sumU])
  have hn := W.2.1
  have hp := qn_pos u rows.length rows.length
  have h2 : (2 : Nat) ^ sumU u rows.length ≤ 2 ^ 3 := Nat.pow_le_pow_right (by decide) hu
  have h3 : (rows.length + 1) * 2 ^ sumU u rows.length ≤ 13 * 8 := Nat.mul_le_mul (by omega) h2
  exact Int.le_trans (Int.mul_le_mul (show (30 : Int) + 10 * (rows.length : Int) ≤ 150 by omega) (show (qn u rows.length rows.length : Int) - 1 ≤ 103 by omega) (by omega) (by decide)) (by decide)
theorem sumU_zero : ∀ n, sumU (fun _ => 0) n = 0
  | 0 => rfl
  | n + 1 => by show sumU (fun _ => 0) n + 0 = 0; rw [sumU_zero n]
def othC (n g : Int) : Int := if g < 0 then g else n - 1 - g
def revRows (rows : List (List Int)) : List (List Int) := rows.reverse.map fun r => r.map (othC rows.length)
theorem revRows_len (rows : List (List Int)) : (revRows rows).length = rows.length := by unfold revRows; simp
theorem revRows_get {rows : List (List Int)} {i : Nat} (h : i < rows.length) : (revRows rows).getD i [] = (rows.getD (rows.length - 1 - i) []).map (othC rows.length) := by
  unfold revRows
  rw [List.getD_eq_getElem?_getD, List.getElem?_map, List.getElem?_reverse h, List.getElem?_eq_getElem (by omega), List.getD_eq_getElem?_getD, List.getElem?_eq_getElem (by omega)]
  rfl
theorem tame_rev {rows : List (List Int)} {M : Int} (W : Wf rows) (T : Tame rows M) : Tame (revRows rows) M := by
  obtain ⟨f, G, D1, D2, w⟩ := T
  have ff : ∀ i, i < rows.length → f (othC rows.length (i : Nat)) = f ((rows.length - 1 - i : Nat) : Int) := fun i hi => by
    unfold othC
    rw [if_neg (by omega), show (rows.length : Int) - 1 - (i : Nat) = ((rows.length - 1 - i : Nat) : Int) by omega]
  have dd : ∀ i, i < rows.length → ∀ t, dropW (f (othC rows.length (i : Nat))) (fun e => f (othC rows.length e)) ((revRows rows).getD i []) t = dropW (f ((rows.length - 1 - i : Nat) : Int)) f (rows.getD (rows.length - 1 - i) []) t := fun i hi t => by
    unfold dropW
    rw [revRows_get hi, ff i hi, ← List.map_take, List.map_map]
    refine congrArg List.sum (List.map_congr_left fun e he => ?_)
    obtain ⟨e0, e1⟩ := (W.2.2 _ (gD_mem (show rows.length - 1 - i < rows.length by omega))).2.2 e (List.mem_of_mem_take he)
    show _ - f (othC rows.length (othC rows.length e)) - 1 = _
    have : othC rows.length (othC rows.length e) = e := by
      unfold othC
      by_cases h : e < 0
      · rw [if_pos h, if_pos h]
      · rw [if_neg h, if_neg (by omega)]
        omega
    rw [this]
  have ll : ∀ i, i < rows.length → ((revRows rows).getD i []).length = (rows.getD (rows.length - 1 - i) []).length := fun i hi => by rw [revRows_get hi, List.length_map]
  refine ⟨fun e => f (othC rows.length e), G, D1, D2, ?_⟩
  refine ⟨w.pit, fun i hi => ?_, fun i hi => ?_, fun i hi => ?_, fun i hi t ht => ?_, fun i hi t ht => ?_, w.g0, by rw [revRows_len]; exact w.all⟩
  all_goals rw [revRows_len] at hi
  · show 0 ≤ f (othC rows.length (i : Nat)); rw [ff i hi]; exact w.low _ (by omega)
  · show f (othC rows.length (i : Nat)) ≤ G; rw [ff i hi]; exact w.top _ (by omega)
  · show 0 ≤ dropW (f (othC rows.length (i : Nat))) (fun e => f (othC rows.length e)) _ _; rw [dd i hi, ll i hi]; exact w.full _ (by omega)
  · show _ ≤ dropW (f (othC rows.length (i : Nat))) (fun e => f (othC rows.length e)) _ _; rw [dd i hi]; exact w.dLow _ (by omega) t (by rw [ll i hi] at ht; exact ht)
  · show dropW (f (othC rows.length (i : Nat))) (fun e => f (othC rows.length e)) _ _ ≤ _; rw [dd i hi]; exact w.dTop _ (by omega) t (by rw [ll i hi] at ht; exact ht)
theorem ups_zero {k : Int} {r : List Int} (h : ∀ e ∈ r, e < k) : ups k r = 0 := by
  unfold ups
  rw [List.length_eq_zero_iff, List.filter_eq_nil_iff]
  intro e he
  have := h e he
  simpa using by omega
theorem ups_small {k : Int} {r : List Int} (hl : r.length ≤ 3) (h : ∃ e ∈ r, e < k) : ups k r ≤ 2 := by
  have : ups k r < r.length := by
    unfold ups
    rw [List.length_filter_lt_length_iff_exists]
    obtain ⟨e, he, hlt⟩ := h
    exact ⟨e, he, by simpa using hlt⟩
  omega
theorem ups_ins (k : Int) (r : List Int) (i : Nat) (x : Int) : ups k (r.take i ++ x :: r.drop i) ≤ ups k r + 1 := by
  have e : ups k r = ups k (r.take i) + ups k (r.drop i) := by
    unfold ups
    rw [← List.length_append, ← List.filter_append, List.take_append_drop]
  have e2 : ups k (r.take i ++ x :: r.drop i) ≤ ups k (r.take i) + (ups k (r.drop i) + 1) := by
    unfold ups
    rw [List.filter_append, List.length_append]
    refine Nat.add_le_add_left ?_ _
    by_cases z : k ≤ x
    · simp [z]
    · simp [z]
  omega
theorem shape_nil (u : Nat → Nat) : Shape [] u := fun k h => by simp at h
theorem shape_snoc {rows : List (List Int)} {r : List Int} {u : Nat → Nat} (h : Shape rows u) (h1 : ups (rows.length : Nat) r ≤ u rows.length) (h2 : u rows.length ≤ 3) (h3 : ∃ e ∈ r, e < (rows.length : Int)) : Shape (rows ++ [r]) u := fun i hi => by
  rw [List.length_append, List.length_singleton] at hi
  by_cases hlt : i < rows.length
  · rw [List.getD_eq_getElem?_getD, List.getElem?_append_left hlt, ← List.getD_eq_getElem?_getD]
    exact h i hlt
  · have e2 : i = rows.length := by omega
    subst e2
    rw [List.getD_eq_getElem?_getD, List.getElem?_append_right (Nat.le_refl _), Nat.sub_self]
    exact ⟨h1, h2, h3⟩
theorem sumU_upd {u : Nat → Nat} {c : Nat} : ∀ n, sumU (fun k => if k = c then u k + 1 else u k) n = sumU u n + (if c < n then 1 else 0)
  | 0 => by simp [sumU]
  | n + 1 => by
    show sumU (fun k => if k = c then u k + 1 else u k) n + (if n = c then u n + 1 else u n) = sumU u n + u n + _
    rw [sumU_upd n]
    by_cases e : n = c
    · subst e; simp; omega
    · rw [if_neg e]
      by_cases z : c < n
      · rw [if_pos z, if_pos (by omega)]; omega
      · rw [if_neg z, if_neg (by omega)]; omega
theorem le_sumU {u : Nat → Nat} {c : Nat} : ∀ n, c < n → u c ≤ sumU u n
  | 0, h => by omega
  | n + 1, h => by
    show u c ≤ sumU u n + u n
    by_cases e : c = n
    · subst e; omega
    · have := le_sumU (u := u) n (show c < n by omega); omega
theorem shape_ins {rows : List (List Int)} {u : Nat → Nat} {c i j : Nat} {x : Int} (h : Shape rows u) (hc : c < rows.length) (hs : sumU u rows.length ≤ j) (hj : j ≤ 2) : ∃ u', Shape (rows.set c ((rows[c]).take i ++ x :: (rows[c]).drop i)) u' ∧ sumU u' rows.length ≤ j + 1 := by
  refine ⟨fun k => if k = c then u k + 1 else u k, fun k hk => ?_, by rw [sumU_upd, if_pos hc]; omega⟩
  rw [List.length_set] at hk
  obtain ⟨h1, h2, e, h3, h4⟩ := h k hk
  by_cases z : c = k
  · subst z
    have eg : rows.getD c [] = rows[c] := by rw [List.getD_eq_getElem?_getD, List.getElem?_eq_getElem hk]; rfl
    rw [gD_set_self hk]
    dsimp only
    rw [if_pos rfl]
    rw [eg] at h1 h3
    refine ⟨Nat.le_trans (ups_ins _ _ _ _) (by omega), ?_, e, ?_, h4⟩
    · have := le_sumU (u := u) (c := c) rows.length hk; omega
    · have : e ∈ (rows[c]).take i ++ (rows[c]).drop i := by rw [List.take_append_drop]; exact h3
      rcases List.mem_append.mp this with y | y
      · exact List.mem_append.mpr (.inl y)
      · exact List.mem_append.mpr (.inr (List.mem_cons_of_mem _ y))
  · rw [gD_set_ne z]
    dsimp only
    rw [if_neg (Ne.symm z)]
    exact ⟨h1, h2, e, h3, h4⟩
theorem Shape.step {rows : List (List Int)} {u : Nat → Nat} (h : Shape rows u) (W : ∀ r ∈ rows, ∀ e ∈ r, -1 ≤ e) : ∀ i, i < rows.length → ∃ e ∈ rows.getD i [], -1 ≤ e ∧ e < (i : Int) := fun i hi => by
  obtain ⟨_, _, e, h3, h4⟩ := h i hi
  exact ⟨e, h3, W _ (gD_mem hi) e h3, h4⟩
end Com
set_option Elab.async false
set_option linter.all false
set_option maxRecDepth 100000
set_option maxHeartbeats 4000000
namespace Com
end Com
set_option Elab.async false
set_option linter.all false
set_option maxRecDepth 100000
set_option maxHeartbeats 4000000
namespace Com
end Com
set_option Elab.async false
set_option linter.all false
set_option maxRecDepth 100000
set_option maxHeartbeats 4000000
namespace Com
open PySem L2
def numS (i : Int) : Str := Str.ofString (toString i)
def wordS (e : Int) : Str := if e = -1 then Str.ofString "pit" else numS e
def lineW (t l s : Int) (r : List Int) : List Str := [numS t, numS l, numS s] ++ [Str.ofString ">"] ++ r.map wordS
def lineS (t l s : Int) (r : List Int) : Str := Str.join (Str.ofString " ") (lineW t l s r)
def headS (w : Int) : Str := Str.ofString "board" ++ Str.ofString " " ++ numS w
def siteS (b : Brd) (i : Nat) : Str := lineS (b.turns.getD i 0) (b.loads.getD i 0) (b.steps.getD i 0) (b.rows.getD i [])
def linesS (b : Brd) : List Str := headS b.taken :: (List.range b.rows.length).map (siteS b)
def textS (b : Brd) : Str := Str.join (Str.ofString "\n") (linesS b)
def Sm (i : Int) : Prop := i.natAbs < 10 ^ 30
theorem numS_len {i : Int} (h : Sm i) : (numS i).length ≤ 31 := by
  unfold numS
  rw [PySem.ofString_length]
  exact int_text_length_le10 (by decide) h
theorem Sm.log {i : Int} (h : Sm i) : i.natAbs.log2 < 1920 := by
  by_cases h0 : i.natAbs = 0
  · rw [h0]; decide
  · refine (Nat.log2_lt h0).mpr (Nat.lt_of_lt_of_le h ?_)
    decide +kernel
theorem sm_of {i : Int} (h : -1000000 ≤ i) (h2 : i ≤ 1000000) : Sm i := by
  show i.natAbs < 1000000000000000000000000000000
  omega
theorem wordS_len {e : Int} (h : Sm e) : (wordS e).length ≤ 31 := by
  unfold wordS
  split
  · decide +kernel
  · exact numS_len h
theorem join_len (sep : Str) {B : Nat} : ∀ {l : List Str}, (∀ y ∈ l, y.length ≤ B) → (Str.join sep l).length ≤ l.length * (B + sep.length)
  | [], _ => by simp [Str.join, Str.length, Str.empty]
  | [x], h => by
    have := h x List.mem_cons_self
    show x.length ≤ 1 * (B + sep.length)
    omega
  | x :: y :: r, h => by
    have h1 := h x List.mem_cons_self
    have h2 := join_len sep (l := y :: r) fun z hz => h z (List.mem_cons_of_mem _ hz)
    show (x ++ sep ++ Str.join sep (y :: r)).length ≤ _
    rw [Str.length_append, Str.length_append, List.length_cons, Nat.add_mul, Nat.one_mul]
    omega
theorem lineW_len {t l s : Int} {r : List Int} (h1 : Sm t) (h2 : Sm l) (h3 : Sm s) (hr : ∀ e ∈ r, Sm e) : ∀ y ∈ lineW t l s r, y.length ≤ 31 := fun y hy => by
  unfold lineW at hy
  simp only [List.mem_append, List.mem_cons, List.not_mem_nil, or_false] at hy
  rcases hy with ((rfl | rfl | rfl) | rfl) | hy
  · exact numS_len h1
  · exact numS_len h2
  · exact numS_len h3
  · decide +kernel
  · obtain ⟨e, he, rfl⟩ := List.mem_map.mp hy
    exact wordS_len (hr e he)
structure BSm (b : Brd) : Prop where
  O : BrdOk b
  k : Sm b.taken
  l : ∀ i, Sm (b.loads.getD i 0)
  s : ∀ i, Sm (b.steps.getD i 0)
theorem BSm.t {b : Brd} (S : BSm b) {i : Nat} (hi : i < b.rows.length) : Sm (b.turns.getD i 0) := by
  obtain ⟨a, c⟩ := S.O.T.2 i hi
  have := row_len S.O.W hi
  exact sm_of (by omega) (by omega)
theorem BSm.r {b : Brd} (S : BSm b) {i : Nat} (hi : i < b.rows.length) : ∀ e ∈ b.rows.getD i [], Sm e := fun e he => by
  have := (S.O.W.2.2 _ (gD_mem hi)).2.2 e he
  have := S.O.W.2.1
  exact sm_of (by omega) (by omega)
theorem BSm.line {b : Brd} (S : BSm b) {i : Nat} (hi : i < b.rows.length) : (siteS b i).length ≤ 400 := by
  have h := join_len (Str.ofString " ") (lineW_len (S.t hi) (S.l i) (S.s i) (S.r hi))
  have hl : (lineW (b.turns.getD i 0) (b.loads.getD i 0) (b.steps.getD i 0) (b.rows.getD i [])).length ≤ 12 := by
    unfold lineW
    have := (row_len S.O.W hi).2
    rw [List.length_append, List.length_append, List.length_map]
    show 3 + 1 + _ ≤ 12
    omega
  have e : (Str.ofString " ").length = 1 := by decide +kernel
  rw [e] at h
  show (Str.join (Str.ofString " ") _).length ≤ 400
  have : (lineW (b.turns.getD i 0) (b.loads.getD i 0) (b.steps.getD i 0) (b.rows.getD i [])).length * (31 + 1) ≤ 12 * (31 + 1) := Nat.mul_le_mul hl (Nat.le_refl _)
  omega
theorem head_len {w : Int} (h : Sm w) : (headS w).length ≤ 40 := by
  unfold headS
  rw [Str.length_append, Str.length_append]
  have := numS_len h
  have e : (Str.ofString " ").length = 1 := by decide +kernel
  have e2 : (Str.ofString "board").length = 5 := by decide +kernel
  omega
theorem BSm.lines {b : Brd} (S : BSm b) : ∀ y ∈ linesS b, y.length ≤ 400 := fun y hy => by
  unfold linesS at hy
  rcases List.mem_cons.mp hy with rfl | hy
  · exact Nat.le_trans (head_len S.k) (by decide)
  · obtain ⟨i, hi, rfl⟩ := List.mem_map.mp hy
    exact S.line (List.mem_range.mp hi)
theorem size_of {n : Nat} (h : n ≤ 1000000) : n ≤ sizeLine := Nat.le_trans h (by decide +kernel)
theorem lines_get {b : Brd} {i : Nat} (h : i < b.rows.length) : (linesS b).take (i + 2) = (linesS b).take (i + 1) ++ [siteS b i] := by
  unfold linesS
  rw [List.take_succ_cons, List.take_succ_cons, List.take_add_one, List.getElem?_map, List.getElem?_range h]
  rfl
theorem nl_len : (Str.ofString "\n").length = 1 := by decide +kernel
theorem sp_len : (Str.ofString " ").length = 1 := by decide +kernel
end Com
set_option Elab.async false
set_option linter.all false
set_option maxRecDepth 100000
set_option maxHeartbeats 4000000
namespace L2
open PySem PySem.Spec PyProof.Rows
section
variable {X : Cx} {K : PySem.W.Frag}
def Its (x : Str) : It := ⟨fun i _ => i < x.length, fun i H v H' => H' = H ∧ ∃ c, x.cps[i]? = some c ∧ v = .str ⟨#[c]⟩, fun i _ => x.length ≤ i⟩
theorem turn_str {P : Program} {w : World} {tg : Expr} (x : Str) (t : Tok) (it : Addr) : Turn P w K tg (Its x) [it] it (fun i h => h.IsStrIter it "str_ascii_iterator" x t i) false where
  mem := by simp
  obj := fun i h st b hb => by
    have e : b = it := by simpa using hb
    subst e
    obtain ⟨o, e, c, d⟩ := st
    exact ⟨o, e, fun v z => by rw [d] at z; cases z⟩
  keep := fun i h h' st k => by
    obtain ⟨o, e, r⟩ := st
    exact ⟨o, k it (by simp) o e, r⟩
  item := by
    intro X hP hw hK hc i pins s σ H E I hf st hg
    subst hP hw hK
    have hi : i < x.cps.size := hg
    obtain ⟨f0, f1, f2, f3, f4, f5⟩ := hf it (by simp)
    refine wpAny_pyNext_ascii_item st (c := x.cps[i]) (by simp [hi]) fun h' st' sb => ?_
    have I1 : Inv X pins σ H { s with heap := h', toks := s.toks + 1 } := I.turned (t' := s.toks + 1) (fun b o hb e => (sb.2 b hb).trans e) f0 f1 f3 f4 f5
    obtain ⟨o, e, c, d⟩ := id st'
    exact ⟨_, rfl, go_of (s := { s with heap := h', toks := s.toks + 1 }) e c d (by decide) ⟨.str ⟨#[x.cps[i]]⟩, H, I1, ⟨_, rfl⟩, ⟨rfl, _, by simp [hi], rfl⟩, st', fun b hb => (hf b hb).1⟩⟩
  done := by
    intro X hP hw hK hc i pins s σ H E I hf st hg
    subst hP hw hK
    have hi : x.cps.size ≤ i := hg
    obtain ⟨f0, f1, f2, f3, f4, f5⟩ := hf it (by simp)
    exact asciiEnd (I.chain hc.2) st (by simp [hi]) fun h' eb => ⟨rfl, I.turned (t' := s.toks) (fun b o hb e => eb b o hb e) f0 f1 f3 f4 f5⟩
  self := fun _ _ _ _ _ st h => wpAny_pyIter_striter_ascii st h
def iStr (tl : TE) : TI := fun σ H R => tl σ H fun x H1 => ∃ z : Str, x = .str z ∧ z.cps.all (· < 128) = true ∧ R (Its z) H1
theorem pi_str {tg l : Expr} {tl : TE} (hl : PE X l tl) : PI X tg l (iStr tl) := by
  intro pins s σ H R I h
  refine thn (hl pins s σ H _ I h) fun v s1 ⟨x, H1, I1, r1, q1⟩ => ?_
  obtain ⟨z, e, ha, q⟩ := q1
  subst e
  obtain ⟨t, rfl⟩ := r1
  refine wpAny_pyIter_ascii ha ?_
  refine ⟨s1.heap.objs.size, [s1.heap.objs.size], _, _, H1, rfl, I1.kept (t' := s1.toks) fun b o e => Heap.get?_push_of_some _ e, ⟨false, turn_str z t _, fun z => by cases z⟩, ⟨_, Heap.get?_push_size _ rfl, rfl, rfl⟩, fun b hb => ?_, q⟩
  have e : b = s1.heap.objs.size := by simpa using hb
  subst e
  exact I1.fpOk (Nat.le_refl _) (I1.hok.fresh (Nat.le_refl _))
def signsV (z : Str) : List V := z.cps.toList.map fun c => V.str ⟨#[c]⟩
theorem wk_str {z : Str} {H : Hp} : Wk (Its z) (signsV z) H where
  go := fun i H3 s hi => by
    show i < z.cps.size
    simpa [signsV] using hi
  yl := fun i H3 x H' s hi y => by
    obtain ⟨e, c, hc, rfl⟩ := y
    refine ⟨e, ?_⟩
    rw [signsV, List.getElem?_map]
    have : z.cps.toList[i]? = some c := by simpa using hc
    rw [this]
    rfl
  st := fun H3 s => by
    show z.cps.size ≤ _
    simp [signsV]
theorem call_int_str : CallR X (.type "int") (fun xs H Q => ∃ z n, xs = [.str z] ∧ PySem.intText? z = some n ∧ z.length ≤ 640 ∧ Q (.int n) H) := by
  intro pins s σ H xs us Q I r h
  obtain ⟨z, n, rfl, hn, hl, q⟩ := h
  obtain ⟨u, rfl, ru⟩ := vals1 r
  obtain ⟨t, rfl⟩ := ru
  exact PySem.W.KIN.call_text hn hl ⟨.int n, H, I.tok _, ⟨_, rfl⟩, q⟩
theorem vals_strs : ∀ (l : List (Str × Tok)), Vals ((l.map (·.1)).map V.str) (strValues l)
  | [] => .nil
  | (x, t) :: l => .cons ⟨t, rfl⟩ (vals_strs l)
def rSplit : V → List V → Hp → VK → Prop := fun x xs H Q => ∃ (z : Str) (c : Nat), x = .str z ∧ xs = [.str ⟨#[c]⟩] ∧ z.length + 2 ≤ sizeLine ∧ ∀ l, H l = none → Q (.ref l) (upd H l (.lst ((Txt.split z ⟨#[c]⟩).map V.str)))
theorem mt_split : MtR X "str.split" rSplit := by
  intro pins s σ H x xs v us Q I rx rs h
  obtain ⟨z, c, rfl, rfl, hz, q⟩ := h
  obtain ⟨t, rfl⟩ := rx
  obtain ⟨u, rfl, ru⟩ := vals1 rs
  obtain ⟨t', rfl⟩ := ru
  have hle : (Txt.split z ⟨#[c]⟩).length ≤ sizeLine := Nat.le_trans (split_le z ⟨#[c]⟩) hz
  have fin : ∀ (l : List (Str × Tok)) (k : Nat), l.map (·.1) = Txt.split z ⟨#[c]⟩ → EP X pins σ Q (.ref s.heap.objs.size) { s with toks := k, heap := s.heap.push { cls := .type "list", data := .seq (strValues l).toArray } } := fun l k e => by
    refine ⟨.ref s.heap.objs.size, _, I.laid (t' := k) (fun b o g => Heap.get?_push_of_some _ g) (Nat.le_refl _) (show ObjOk X.prog X.w _ _ _ (.lst ((Txt.split z ⟨#[c]⟩).map V.str)) from ⟨by rw [List.length_map]; exact hle, strValues l, _, by rw [← e]; exact vals_strs l, Heap.get?_push_size _ rfl⟩), rfl, q _ (I.hok.fresh (Nat.le_refl _))⟩
  have hy : ((⟨#[c]⟩ : Str).length == 0) = false := rfl
  cases h1 : (decide (z.length < (⟨#[c]⟩ : Str).length) || decide (Builtin.Str.strKind z < Builtin.Str.strKind ⟨#[c]⟩))
  · cases hf : (Builtin.Str.occurrences z ⟨#[c]⟩ 0 z.length (z.length + 1)).isEmpty
    · have es : Txt.split z ⟨#[c]⟩ = Builtin.Str.partsBetween z (Builtin.Str.occurrences z ⟨#[c]⟩ 0 z.length (z.length + 1)) (⟨#[c]⟩ : Str).length := by
        unfold Txt.split
        rw [h1, hf]
        rfl
      refine call_meets F.slot_str_split (typeIs_str _ _ _) F.entry_str_split (F.args_str_split_2 _ _) (meets_str_split_sep z ⟨#[c]⟩ t t' h1 hy hf (by omega) (by rw [← es]; exact hle)) ?_
      have f := fun k => fin (numbered s.toks (Builtin.Str.partsBetween z (Builtin.Str.occurrences z ⟨#[c]⟩ 0 z.length (z.length + 1)) (⟨#[c]⟩ : Str).length)) k ((numbered_texts _ _).trans es.symm)
      rw [← strsFrom_eq] at f
      exact f _
    · refine call_meets F.slot_str_split (typeIs_str _ _ _) F.entry_str_split (F.args_str_split_2 _ _) (meets_str_split_not_found z ⟨#[c]⟩ t t' h1 hy hf) ?_
      exact fin [(z, t)] _ (by unfold Txt.split; rw [h1, hf]; rfl)
  · refine call_meets F.slot_str_split (typeIs_str _ _ _) F.entry_str_split (F.args_str_split_2 _ _) (meets_str_split_cannot_occur z ⟨#[c]⟩ t t' h1) ?_
    exact fin [(z, t)] _ (by unfold Txt.split; rw [h1]; rfl)
end
end L2
namespace Com
open PySem L2
theorem cps_join (c : Nat) (x y : Str) (r : List Str) : (Str.join ⟨#[c]⟩ (x :: y :: r)).cps.toList = x.cps.toList ++ c :: (Str.join ⟨#[c]⟩ (y :: r)).cps.toList := by
  show (x ++ (⟨#[c]⟩ : Str) ++ Str.join ⟨#[c]⟩ (y :: r)).cps.toList = _
  simp only [Str.cps_append, Array.toList_append]
  simp
theorem cut_inj {c : Nat} : ∀ {p q r r' : List Nat}, c ∉ p → c ∉ q → p ++ c :: r = q ++ c :: r' → p = q ∧ r = r'
  | [], [], r, r', _, _, h => ⟨rfl, by simpa using h⟩
  | [], y :: q, r, r', _, hq, h => absurd (by simp at h; rw [h.1]; exact List.mem_cons_self) hq
  | x :: p, [], r, r', hp, _, h => absurd (by simp at h; rw [h.1]; exact List.mem_cons_self) hp
  | x :: p, y :: q, r, r', hp, hq, h => by
    simp only [List.cons_append, List.cons.injEq] at h
    obtain ⟨e1, e2⟩ := cut_inj (fun z => hp (List.mem_cons_of_mem _ z)) (fun z => hq (List.mem_cons_of_mem _ z)) h.2
    exact ⟨by rw [h.1, e1], e2⟩
theorem str_toList {x y : Str} (h : x.cps.toList = y.cps.toList) : x = y := Str.ext' (Array.toList_inj.mp h)
theorem join_inj (c : Nat) : ∀ {l m : List Str}, l ≠ [] → m ≠ [] → (∀ p ∈ l, c ∉ p.cps.toList) → (∀ p ∈ m, c ∉ p.cps.toList) → (Str.join ⟨#[c]⟩ l).cps.toList = (Str.join ⟨#[c]⟩ m).cps.toList → l = m
  | [], _, h, _, _, _, _ => absurd rfl h
  | _, [], _, h, _, _, _ => absurd rfl h
  | [x], [y], _, _, _, _, h => by rw [str_toList (x := x) (y := y) h]
  | [x], y :: z :: r, _, _, hl, _, h => by
    rw [cps_join] at h
    refine absurd ?_ (hl x List.mem_cons_self)
    rw [show x.cps.toList = _ from h]
    simp
  | x :: z :: r, [y], _, _, _, hm, h => by
    rw [cps_join] at h
    refine absurd ?_ (hm y List.mem_cons_self)
    rw [show y.cps.toList = _ from h.symm]
    simp
  | x :: x2 :: r, y :: y2 :: r', _, _, hl, hm, h => by
    rw [cps_join, cps_join] at h
    obtain ⟨e1, e2⟩ := cut_inj (hl x List.mem_cons_self) (hm y List.mem_cons_self) h
    rw [str_toList e1, join_inj c (l := x2 :: r) (m := y2 :: r') (by simp) (by simp) (fun p hp => hl p (List.mem_cons_of_mem _ hp)) (fun p hp => hm p (List.mem_cons_of_mem _ hp)) e2]
theorem split_join (c : Nat) {ws : List Str} (h0 : ws ≠ []) (h : ∀ p ∈ ws, c ∉ p.cps.toList) : Txt.split (Str.join ⟨#[c]⟩ ws) ⟨#[c]⟩ = ws := by
  refine join_inj c ?_ h0 (StrLaws.split_free _ c) h (by rw [StrLaws.join_split])
  intro e
  have := PyProof.Rows.split_pos (Str.join ⟨#[c]⟩ ws) ⟨#[c]⟩
  rw [e] at this
  exact absurd this (by decide)
end Com
namespace L2
open PySem PySem.Spec PyProof.Rows
theorem comp_valsS {J : It} {xs ys : List V} {σ' : St} {j : Nat} {te : TE} {Q : VK} {H : Hp} (W : Wk J xs H) (hz : xs.length ≤ sizeLine) (hl : ys.length = xs.length)
    (hs : ∀ (i : Nat) x y H3, xs[i]? = some x → ys[i]? = some y → Same H H3 → ∀ Q' : VK, (∀ H4, Same H3 H4 → Q' y H4) → te (σ'.set j (some x)) H3 Q') (hd : ∀ H' D, Same H H' → H' D = none → Q (.ref D) (upd H' D (.lst ys))) : CompW σ' j tYes te Q J H := by
  refine comp_inv W (fun i zs H3 => Same H H3 ∧ i ≤ xs.length ∧ zs = ys.take i) ⟨Same.refl _, Nat.zero_le _, rfl⟩ (fun i zs H3 p => p.1) ?_ ?_ ?_
  · rintro i x zs H3 ex ⟨s3, hi, rfl⟩
    have hi' : i < xs.length := (List.getElem?_eq_some_iff.mp ex).1
    have ey : ys[i]? = some ys[i] := List.getElem?_eq_getElem (by omega)
    show te _ _ _
    refine hs i x _ H3 ex ey s3 _ fun H4 s4 => ⟨s3.trans s4, hi', ?_⟩
    rw [List.take_add_one, ey]
    rfl
  · rintro i zs H3 hi ⟨s3, _, rfl⟩
    rw [List.length_take]
    omega
  · rintro zs H3 ⟨s3, _, rfl⟩ D hD
    rw [List.take_of_length_le (by omega)]
    exact hd H3 D s3 hD
end L2
set_option Elab.async false
set_option linter.all false
set_option maxRecDepth 100000
set_option maxHeartbeats 4000000
namespace Com
open PySem L2
def Nu (i : Int) : Prop := 0 ≤ i ∧ i < 100000000000000000000
theorem Nu.sm {i : Int} (h : Nu i) : Sm i := by
  obtain ⟨a, b⟩ := h
  show i.natAbs < 1000000000000000000000000000000
  omega
theorem num_signs (m : Nat) : (numS (m : Int)).cps.toList = (Nat.toDigits 10 m).map Char.toNat := PySem.W.KIN.signs_num m
theorem num_digit {i : Int} (h : 0 ≤ i) : ∀ c ∈ (numS i).cps.toList, 48 ≤ c ∧ c ≤ 57 := by
  obtain ⟨m, rfl⟩ := Int.eq_ofNat_of_zero_le h
  intro c hc
  rw [num_signs] at hc
  obtain ⟨ch, hch, rfl⟩ := List.mem_map.mp hc
  exact PyProof.Rows.digit_range (Nat.isDigit_of_mem_toDigits (by decide) (by decide) hch)
theorem num_pos {i : Int} (h : 0 ≤ i) : 1 ≤ (numS i).length := by
  obtain ⟨m, rfl⟩ := Int.eq_ofNat_of_zero_le h
  have e : (numS (m : Int)).length = (numS (m : Int)).cps.toList.length := Array.length_toList.symm
  rw [e, num_signs, List.length_map]
  exact Nat.length_toDigits_pos
theorem num_le {i : Int} (h : Nu i) : (numS i).length ≤ 20 := by
  obtain ⟨h0, h1⟩ := h
  obtain ⟨m, rfl⟩ := Int.eq_ofNat_of_zero_le h0
  have e : (numS (m : Int)).length = (numS (m : Int)).cps.toList.length := Array.length_toList.symm
  rw [e, num_signs, List.length_map]
  exact (Nat.length_toDigits_le_iff (by decide) (by decide)).mpr (by show m < 100000000000000000000; omega)
theorem num_int {i : Int} (h : Nu i) : PySem.intText? (numS i) = some i := by
  have hl := num_le h
  have hp := num_pos h.1
  have hd := num_digit h.1
  obtain ⟨m, rfl⟩ := Int.eq_ofNat_of_zero_le h.1
  have e := PySem.intText_digits (x := numS (m : Int)) hd (fun z => by
    have e : (numS (m : Int)).length = (numS (m : Int)).cps.toList.length := Array.length_toList.symm
    rw [z] at e
    rw [e] at hp
    exact absurd hp (by decide)) (by omega)
  rw [num_signs, PySem.W.KIN.val_back] at e
  exact e
theorem head_dig : ∀ (m : Nat), 0 < m → ∃ c r, Nat.toDigits 10 m = c :: r ∧ c ≠ '0' := by
  intro m
  induction m using Nat.strongRecOn with
  | _ m ih =>
    intro h0
    by_cases h : m < 10
    · rw [Nat.toDigits_of_lt_base h]
      refine ⟨_, _, rfl, ?_⟩
      match m, h, h0 with
      | 1, _, _ | 2, _, _ | 3, _, _ | 4, _, _ | 5, _, _ | 6, _, _ | 7, _, _ | 8, _, _ | 9, _, _ => decide
    · have hm : m % 10 < 10 := Nat.mod_lt m (by decide)
      have t : Nat.toDigits 10 (m / 10) ++ Nat.toDigits 10 (m % 10) = Nat.toDigits 10 (10 * (m / 10) + m % 10) := Nat.toDigits_append_toDigits (by decide) (by omega) hm
      rw [Nat.div_add_mod] at t
      obtain ⟨c, r, e, hc⟩ := ih (m / 10) (by omega) (by omega)
      rw [← t, e]
      exact ⟨c, _, rfl, hc⟩
theorem num_lead {i : Int} (h : 0 ≤ i) {c : Nat} (hc : (numS i).cps[0]? = some c) : c = 48 → numS i = Str.ofString "0" := by
  obtain ⟨m, rfl⟩ := Int.eq_ofNat_of_zero_le h
  intro e
  subst e
  have h1 : (numS (m : Int)).cps.toList[0]? = some 48 := by simpa using hc
  rw [num_signs] at h1
  cases m with
  | zero => rfl
  | succ m =>
    obtain ⟨d, r, e, hd⟩ := head_dig (m + 1) (Nat.succ_pos m)
    rw [e] at h1
    simp only [List.map_cons, List.getElem?_cons_zero, Option.some.injEq] at h1
    refine absurd ?_ hd
    exact Char.toNat_inj.mp h1
theorem sp_is : Str.ofString " " = ⟨#[32]⟩ := by decide +kernel
theorem nl_is : Str.ofString "\n" = ⟨#[10]⟩ := by decide +kernel
structure BNu (b : Brd) : Prop where
  O : BrdOk b
  k : Nu b.taken
  l : ∀ i, Nu (b.loads.getD i 0)
  s : ∀ i, Nu (b.steps.getD i 0)
  m : b.loads.sum ≤ 400
theorem BNu.sm {b : Brd} (N : BNu b) : BSm b := ⟨N.O, N.k.sm, fun i => (N.l i).sm, fun i => (N.s i).sm⟩
theorem nu_of {i : Int} (h : 0 ≤ i) (h2 : i ≤ 1000000) : Nu i := ⟨h, by omega⟩
theorem BNu.t {b : Brd} (N : BNu b) {i : Nat} (hi : i < b.rows.length) : Nu (b.turns.getD i 0) := by
  obtain ⟨a, c⟩ := N.O.T.2 i hi
  have := row_len N.O.W hi
  exact nu_of a (by omega)
theorem word_free {e : Int} (h : -1 ≤ e) : ∀ c ∈ (wordS e).cps.toList, 48 ≤ c := by
  intro c hc
  unfold wordS at hc
  split at hc
  · revert c
    decide +kernel
  · exact (num_digit (by omega) c hc).1
theorem free_of {x : Str} {k : Nat} (hk : k < 48) (h : ∀ c ∈ x.cps.toList, 48 ≤ c) : k ∉ x.cps.toList := fun z => by
  have := h k z
  omega
theorem lineW_free {t l s : Int} {r : List Int} (h1 : Nu t) (h2 : Nu l) (h3 : Nu s) (hr : ∀ e ∈ r, -1 ≤ e) {k : Nat} (hk : k < 48) : ∀ p ∈ lineW t l s r, k ∉ p.cps.toList := fun y hy => by
  unfold lineW at hy
  simp only [List.mem_append, List.mem_cons, List.not_mem_nil, or_false] at hy
  rcases hy with ((rfl | rfl | rfl) | rfl) | hy
  · exact free_of hk fun c hc => (num_digit h1.1 c hc).1
  · exact free_of hk fun c hc => (num_digit h2.1 c hc).1
  · exact free_of hk fun c hc => (num_digit h3.1 c hc).1
  · exact free_of hk (by decide +kernel)
  · obtain ⟨e, he, rfl⟩ := List.mem_map.mp hy
    exact free_of hk (word_free (hr e he))
theorem join_free {c k : Nat} (hck : c ≠ k) : ∀ {l : List Str}, (∀ p ∈ l, k ∉ p.cps.toList) → k ∉ (Str.join ⟨#[c]⟩ l).cps.toList
  | [], _ => by simp [Str.join, Str.empty]
  | [x], h => h x List.mem_cons_self
  | x :: y :: r, h => by
    rw [cps_join]
    intro z
    rcases List.mem_append.mp z with z | z
    · exact h x List.mem_cons_self z
    · rcases List.mem_cons.mp z with z | z
      · exact hck z.symm
      · exact join_free hck (l := y :: r) (fun p hp => h p (List.mem_cons_of_mem _ hp)) z
theorem BNu.way {b : Brd} (N : BNu b) {i : Nat} (hi : i < b.rows.length) : ∀ e ∈ b.rows.getD i [], -1 ≤ e := fun e he => ((N.O.W.2.2 _ (gD_mem hi)).2.2 e he).1
def headW (w : Int) : List Str := [Str.ofString "board", numS w]
theorem head_join (w : Int) : headS w = Str.join ⟨#[32]⟩ (headW w) := by
  unfold headS
  rw [sp_is]
  rfl
theorem headW_free {w : Int} (h : Nu w) {k : Nat} (hk : k < 48) : ∀ p ∈ headW w, k ∉ p.cps.toList := fun y hy => by
  unfold headW at hy
  simp only [List.mem_cons, List.not_mem_nil, or_false] at hy
  rcases hy with rfl | rfl
  · exact free_of hk (by decide +kernel)
  · exact free_of hk fun c hc => (num_digit h.1 c hc).1
theorem text_split {b : Brd} (N : BNu b) : Txt.split (textS b) ⟨#[10]⟩ = linesS b := by
  unfold textS
  rw [nl_is]
  refine split_join 10 (by unfold linesS; simp) fun p hp => ?_
  unfold linesS at hp
  rcases List.mem_cons.mp hp with rfl | hp
  · rw [head_join]
    exact join_free (by decide) (headW_free N.k (by decide))
  · obtain ⟨i, hi, rfl⟩ := List.mem_map.mp hp
    unfold siteS lineS
    rw [sp_is]
    exact join_free (by decide) (lineW_free (N.t (List.mem_range.mp hi)) (N.l i) (N.s i) (N.way (List.mem_range.mp hi)) (by decide))
theorem cut_from {xs : List V} {k : Nat} (hk : k ≤ xs.length) : cutV xs (some (k : Int)) none = xs.drop k := by
  unfold cutV
  rw [HT.sIx_none, HT.sIx_nat, Nat.min_eq_left hk]
  exact List.take_of_length_le (by simp)
end Com
set_option Elab.async false
set_option linter.all false
set_option maxRecDepth 100000
set_option maxHeartbeats 4000000
namespace Com
open PySem L2
theorem digit_nat {d : Nat} (h : d < 10) : (Nat.toDigits 10 d).map Char.toNat = [d + 48] := by
  rw [Nat.toDigits_of_lt_base h]
  match d, h with
  | 0, _ | 1, _ | 2, _ | 3, _ | 4, _ | 5, _ | 6, _ | 7, _ | 8, _ | 9, _ => decide
theorem canon : ∀ (n : Nat) (ds : List Nat), ds.length = n → ds ≠ [] → (∀ c ∈ ds, 48 ≤ c ∧ c ≤ 57) → (ds.head? = some 48 → ds.length = 1) → ∃ m : Nat, (Nat.toDigits 10 m).map Char.toNat = ds ∧ m < 10 ^ n := by
  intro n
  induction n with
  | zero => intro ds h h0; exact absurd (List.eq_nil_of_length_eq_zero h) h0
  | succ n ih =>
    intro ds hl h0 hd hz
    obtain rfl | ⟨L, d, rfl⟩ := List.eq_nil_or_concat ds
    · exact absurd rfl h0
    rw [List.concat_eq_append] at *
    have hdd := hd d (by simp)
    have hL : L.length = n := by simpa using hl
    by_cases e : L = []
    · subst e
      refine ⟨d - 48, by rw [digit_nat (by omega)]; simp; omega, ?_⟩
      have : 10 ≤ 10 ^ (n + 1) := by rw [Nat.pow_succ]; exact Nat.le_mul_of_pos_left _ (Nat.pow_pos (by decide))
      omega
    · obtain ⟨x, r, rfl⟩ := List.exists_cons_of_ne_nil e
      have hx : x ≠ 48 := fun z => by
        have := hz (by simp [z])
        simp at this
      obtain ⟨m, em, lm⟩ := ih (x :: r) hL (by simp) (fun c hc => hd c (List.mem_append_left _ hc)) (fun z => absurd (by simpa using z) hx)
      have m0 : 0 < m := by
        rcases Nat.eq_zero_or_pos m with z | z
        · subst z
          have e2 : (Nat.toDigits 10 0).map Char.toNat = [48] := by decide
          rw [e2] at em
          injection em with em _
          exact absurd em.symm hx
        · exact z
      refine ⟨10 * m + (d - 48), ?_, ?_⟩
      · rw [← Nat.toDigits_append_toDigits (by decide) m0 (by omega), List.map_append, em, digit_nat (by omega)]
        simp
        omega
      · rw [Nat.pow_succ]
        omega
def IsNum (z : Str) : Prop := ∃ n, Nu n ∧ z = numS n
theorem isNum_of {z : Str} (h1 : 1 ≤ z.length) (h2 : z.length ≤ 20) (hd : ∀ c ∈ z.cps.toList, 48 ≤ c ∧ c ≤ 57) (hz : z.cps[0]? = some 48 → z.length = 1) : IsNum z := by
  have el : z.cps.toList.length = z.length := Array.length_toList
  obtain ⟨m, em, lm⟩ := canon z.length z.cps.toList el (fun e => by rw [e] at el; simp at el; omega) hd (fun e => by
    rw [el]
    refine hz ?_
    cases q : z.cps.toList with
    | nil => rw [q] at e; cases e
    | cons x r =>
      rw [q] at e
      have : z.cps.toList[0]? = some 48 := by rw [q]; simpa using e
      simpa using this)
  have b : 10 ^ z.length ≤ 10 ^ 20 := Nat.pow_le_pow_right (by decide) h2
  refine ⟨(m : Int), ⟨by omega, ?_⟩, ?_⟩
  · have : m < 10 ^ 20 := Nat.lt_of_lt_of_le lm b
    have e20 : (10 : Nat) ^ 20 = 100000000000000000000 := by decide
    rw [e20] at this
    omega
  · refine str_toList ?_
    rw [num_signs, em]
theorem numS_inj {a b : Int} (ha : Nu a) (hb : Nu b) (h : numS a = numS b) : a = b := by
  have := num_int ha
  rw [h, num_int hb] at this
  exact (Option.some.inj this).symm
open Classical in
noncomputable def numV (z : Str) : Int := if h : IsNum z then h.choose else -2
theorem numV_num {n : Int} (h : Nu n) : numV (numS n) = n := by
  have hz : IsNum (numS n) := ⟨n, h, rfl⟩
  unfold numV
  rw [dif_pos hz]
  exact (numS_inj h hz.choose_spec.1 hz.choose_spec.2).symm
theorem numV_not {z : Str} (h : ¬ IsNum z) : numV z = -2 := by
  unfold numV
  rw [dif_neg h]
theorem numV_cases (z : Str) : (Nu (numV z) ∧ z = numS (numV z)) ∨ (¬ IsNum z ∧ numV z = -2) := by
  by_cases h : IsNum z
  · obtain ⟨n, hn, rfl⟩ := h
    rw [numV_num hn]
    exact .inl ⟨hn, rfl⟩
  · exact .inr ⟨h, numV_not h⟩
theorem numV_nn {z : Str} (h : 0 ≤ numV z) : Nu (numV z) ∧ z = numS (numV z) := by
  rcases numV_cases z with q | ⟨_, q⟩
  · exact q
  · rw [q] at h; exact absurd h (by decide)
theorem isNum_iff {z : Str} : IsNum z ↔ 0 ≤ numV z := by
  constructor
  · rintro ⟨n, hn, rfl⟩
    rw [numV_num hn]
    exact hn.1
  · exact fun h => ⟨_, (numV_nn h).1, (numV_nn h).2⟩
open Classical in
noncomputable def wayV (z : Str) : Int := if z = Str.ofString "pit" then -1 else numV z
theorem wayV_ok {z : Str} (h : -1 ≤ wayV z) : (wayV z = -1 ∨ Nu (wayV z)) ∧ z = wordS (wayV z) := by
  unfold wayV at h ⊢
  split
  · rename_i e
    exact ⟨.inl rfl, by rw [e]; unfold wordS; rw [if_pos rfl]⟩
  · rename_i e
    rw [if_neg e] at h
    rcases numV_cases z with ⟨q1, q2⟩ | ⟨_, q⟩
    · exact ⟨.inr q1, by unfold wordS; rw [if_neg (by have := q1.1; omega)]; exact q2⟩
    · rw [q] at h; exact absurd h (by decide)
def spl (z : Str) : List Str := Txt.split z ⟨#[32]⟩
def lns (z : Str) : List Str := Txt.split z ⟨#[10]⟩
theorem lns_ne (z : Str) : lns z ≠ [] := fun e => by
  have := PyProof.Rows.split_pos z ⟨#[10]⟩
  rw [show Txt.split z ⟨#[10]⟩ = [] from e] at this
  exact absurd this (by decide)
theorem lns_join (z : Str) : Str.join ⟨#[10]⟩ (lns z) = z := StrLaws.join_split z _
theorem spl_join (z : Str) : Str.join ⟨#[32]⟩ (spl z) = z := StrLaws.join_split z _
structure LOk (m : Nat) (ws : List Str) : Prop where
  l5 : 5 ≤ ws.length
  l12 : ws.length ≤ 12
  gt : ws[3]? = some (Str.ofString ">")
  n : ∀ w ∈ ws.take 3, 0 ≤ numV w
  e : ∀ w ∈ ws.drop 4, -1 ≤ wayV w ∧ wayV w < (m : Int)
  t : numV (ws.getD 0 Str.empty) < (((ws.drop 4).length : Nat) : Int)
structure LRd (ws : List Str) : Prop where
  gt : ws[3]? = some (Str.ofString ">")
  n : ∀ w ∈ ws.take 3, 0 ≤ numV w
  e : ∀ w ∈ ws.drop 4, -1 ≤ wayV w
theorem LOk.rd {m : Nat} {ws : List Str} (h : LOk m ws) : LRd ws := ⟨h.gt, h.n, fun w hw => (h.e w hw).1⟩
def HOk1 (ws : List Str) : Prop := ∃ w, ws = [Str.ofString "board", w] ∧ IsNum w
noncomputable def rowsT (ls : List Str) : List (List Int) := ls.map fun ln => ((spl ln).drop 4).map wayV
noncomputable def colT (k : Nat) (ls : List Str) : List Int := ls.map fun ln => numV ((spl ln).getD k Str.empty)
noncomputable def brdT (z : Str) : Brd := ⟨rowsT (lns z).tail, colT 0 (lns z).tail, colT 1 (lns z).tail, colT 2 (lns z).tail, numV ((spl ((lns z).headD Str.empty)).getD 1 Str.empty)⟩
structure Wr (z : Str) : Prop where
  h : HOk1 (spl ((lns z).headD Str.empty))
  m1 : 1 ≤ (lns z).tail.length
  m12 : (lns z).tail.length ≤ 12
  ok : ∀ ln ∈ (lns z).tail, LOk (lns z).tail.length (spl ln)
  sum : (colT 1 (lns z).tail).sum ≤ 400
structure Rdb (z : Str) : Prop where
  h : HOk1 (spl ((lns z).headD Str.empty))
  rd : ∀ ln ∈ (lns z).tail, LRd (spl ln)
theorem Wr.rd {z : Str} (h : Wr z) : Rdb z := ⟨h.h, fun ln hl => (h.ok ln hl).rd⟩
theorem LRd.line {ws : List Str} (h : LRd ws) : ws = lineW (numV (ws.getD 0 Str.empty)) (numV (ws.getD 1 Str.empty)) (numV (ws.getD 2 Str.empty)) ((ws.drop 4).map wayV) ∧ Nu (numV (ws.getD 0 Str.empty)) ∧ Nu (numV (ws.getD 1 Str.empty)) ∧ Nu (numV (ws.getD 2 Str.empty)) := by
  obtain ⟨gt, n, e⟩ := h
  match ws, gt, n, e with
  | a :: b :: c :: d :: r, gt, n, e =>
    have ed : d = Str.ofString ">" := by simpa using gt
    subst ed
    have n0 := numV_nn (n a (by simp))
    have n1 := numV_nn (n b (by simp))
    have n2 := numV_nn (n c (by simp))
    refine ⟨?_, n0.1, n1.1, n2.1⟩
    have er : r = (r.map wayV).map wordS := by
      rw [List.map_map]
      conv => lhs; rw [← List.map_id r]
      exact List.map_congr_left fun w hw => (wayV_ok (e w (by simpa using hw))).2
    show a :: b :: c :: Str.ofString ">" :: r = numS (numV a) :: numS (numV b) :: numS (numV c) :: Str.ofString ">" :: (r.map wayV).map wordS
    rw [← er, ← n0.2, ← n1.2, ← n2.2]
theorem headD_tail {α : Type} {d : α} {l : List α} (h : l ≠ []) : l = l.headD d :: l.tail := by
  cases l with
  | nil => exact absurd rfl h
  | cons x r => rfl
theorem getD_map {α β : Type} (f : α → β) (d : α) (d' : β) {l : List α} {i : Nat} (h : i < l.length) : (l.map f).getD i d' = f (l.getD i d) := by
  rw [List.getD_eq_getElem?_getD, List.getD_eq_getElem?_getD, List.getElem?_map, List.getElem?_eq_getElem h]
  rfl
theorem Rdb.text {z : Str} (h : Rdb z) : textS (brdT z) = z := by
  obtain ⟨⟨w, hw, N⟩, rd⟩ := h
  have e0 : lns z = (lns z).headD Str.empty :: (lns z).tail := headD_tail (lns_ne z)
  have hh : headS (brdT z).taken = (lns z).headD Str.empty := by
    rw [head_join, ← spl_join ((lns z).headD Str.empty), hw]
    obtain ⟨n, hn, rfl⟩ := N
    have : (brdT z).taken = n := by
      show numV ((spl ((lns z).headD Str.empty)).getD 1 Str.empty) = n
      rw [hw]
      exact numV_num hn
    rw [this]
    rfl
  have hl : (List.range (brdT z).rows.length).map (siteS (brdT z)) = (lns z).tail := by
    refine List.ext_getElem? fun i => ?_
    rw [List.getElem?_map]
    have el : (brdT z).rows.length = (lns z).tail.length := by show (rowsT (lns z).tail).length = _; unfold rowsT; simp
    by_cases hi : i < (lns z).tail.length
    · rw [List.getElem?_range (by rw [el]; exact hi), List.getElem?_eq_getElem hi]
      show some (siteS (brdT z) i) = _
      have r := rd _ (List.getElem_mem hi)
      have eg : ∀ d, (lns z).tail.getD i d = (lns z).tail[i] := fun d => by rw [List.getD_eq_getElem?_getD, List.getElem?_eq_getElem hi]; rfl
      have t0 : ∀ k, (colT k (lns z).tail).getD i 0 = numV ((spl (lns z).tail[i]).getD k Str.empty) := fun k => by unfold colT; rw [getD_map _ Str.empty 0 hi, eg]
      have tr : (rowsT (lns z).tail).getD i [] = ((spl (lns z).tail[i]).drop 4).map wayV := by unfold rowsT; rw [getD_map _ Str.empty [] hi, eg]
      unfold siteS lineS
      rw [sp_is]
      show some (Str.join ⟨#[32]⟩ (lineW ((colT 0 (lns z).tail).getD i 0) ((colT 1 (lns z).tail).getD i 0) ((colT 2 (lns z).tail).getD i 0) ((rowsT (lns z).tail).getD i []))) = _
      rw [t0, t0, t0, tr, ← r.line.1, spl_join]
    · rw [List.getElem?_eq_none (by rw [List.length_range, el]; omega), List.getElem?_eq_none (by omega)]
      rfl
  unfold textS linesS
  rw [nl_is, hl, hh, ← e0]
  exact lns_join z
theorem Rdb.wr {z : Str} (h : Rdb z) : Wr z ↔ (Wf (brdT z).rows ∧ (∀ i, i < (brdT z).rows.length → (brdT z).turns.getD i 0 < (((brdT z).rows.getD i []).length : Int)) ∧ (brdT z).loads.sum ≤ 400) := by
  have el : (brdT z).rows.length = (lns z).tail.length := by show (rowsT (lns z).tail).length = _; unfold rowsT; simp
  have eg : ∀ i (hi : i < (lns z).tail.length) d, (lns z).tail.getD i d = (lns z).tail[i] := fun i hi d => by rw [List.getD_eq_getElem?_getD, List.getElem?_eq_getElem hi]; rfl
  have t0 : ∀ i (hi : i < (lns z).tail.length), (brdT z).turns.getD i 0 = numV ((spl (lns z).tail[i]).getD 0 Str.empty) := fun i hi => by show (colT 0 (lns z).tail).getD i 0 = _; unfold colT; rw [getD_map _ Str.empty 0 hi, eg i hi]
  have tr : ∀ i (hi : i < (lns z).tail.length), (brdT z).rows.getD i [] = ((spl (lns z).tail[i]).drop 4).map wayV := fun i hi => by show (rowsT (lns z).tail).getD i [] = _; unfold rowsT; rw [getD_map _ Str.empty [] hi, eg i hi]
  have l4 : ∀ ln ∈ (lns z).tail, 4 ≤ (spl ln).length := fun ln hl => by
    have := (List.getElem?_eq_some_iff.mp (h.rd ln hl).gt).1
    omega
  constructor
  · intro W
    refine ⟨⟨by rw [el]; exact W.m1, by rw [el]; exact W.m12, fun r hr => ?_⟩, fun i hi => ?_, W.sum⟩
    · obtain ⟨ln, hl, rfl⟩ := List.mem_map.mp (show r ∈ (lns z).tail.map fun ln => ((spl ln).drop 4).map wayV from hr)
      have o := W.ok ln hl
      have := o.l5
      have := o.l12
      refine ⟨by rw [List.length_map, List.length_drop]; omega, by rw [List.length_map, List.length_drop]; omega, fun x hx => ?_⟩
      obtain ⟨w, hw, rfl⟩ := List.mem_map.mp hx
      rw [el]
      exact o.e w hw
    · rw [el] at hi
      rw [t0 i hi, tr i hi, List.length_map]
      exact (W.ok _ (List.getElem_mem hi)).t
  · rintro ⟨⟨w1, w12, wr⟩, ht, hs⟩
    rw [el] at w1 w12
    refine ⟨h.h, w1, w12, fun ln hl => ?_, hs⟩
    have rd := h.rd ln hl
    have l4 := l4 ln hl
    obtain ⟨i, hi, e⟩ := List.getElem_of_mem hl
    have ro := wr (((spl ln).drop 4).map wayV) (List.mem_map.mpr ⟨ln, hl, rfl⟩)
    obtain ⟨r1, r8, re⟩ := ro
    rw [List.length_map, List.length_drop] at r1 r8
    refine ⟨by omega, by omega, rd.gt, rd.n, fun w hw => ⟨rd.e w hw, ?_⟩, ?_⟩
    · have := (re (wayV w) (List.mem_map.mpr ⟨w, hw, rfl⟩)).2
      rw [el] at this
      exact this
    · have q := ht i (by rw [el]; exact hi)
      rw [t0 i hi, tr i hi, List.length_map, e] at q
      exact q
theorem Rdb.nu {z : Str} (h : Rdb z) : Nu (brdT z).taken ∧ (∀ i, Nu ((brdT z).turns.getD i 0)) ∧ (∀ i, Nu ((brdT z).loads.getD i 0)) ∧ (∀ i, Nu ((brdT z).steps.getD i 0)) ∧ ∀ r ∈ (brdT z).rows, ∀ e ∈ r, e = -1 ∨ Nu e := by
  have c : ∀ k, k < 3 → ∀ i, Nu ((colT k (lns z).tail).getD i 0) := fun k hk i => by
    by_cases hi : i < (lns z).tail.length
    · unfold colT
      rw [getD_map _ Str.empty 0 hi, show (lns z).tail.getD i Str.empty = (lns z).tail[i] from by rw [List.getD_eq_getElem?_getD, List.getElem?_eq_getElem hi]; rfl]
      have l := (h.rd _ (List.getElem_mem hi)).line
      match k, hk with
      | 0, _ => exact l.2.1
      | 1, _ => exact l.2.2.1
      | 2, _ => exact l.2.2.2
    · rw [List.getD_eq_getElem?_getD, List.getElem?_eq_none (by unfold colT; rw [List.length_map]; omega)]
      exact ⟨by decide, by decide⟩
  refine ⟨?_, c 0 (by decide), c 1 (by decide), c 2 (by decide), fun r hr x hx => ?_⟩
  · obtain ⟨w, hw, N⟩ := h.h
    show Nu (numV ((spl ((lns z).headD Str.empty)).getD 1 Str.empty))
    rw [hw]
    exact (numV_nn (isNum_iff.mp N)).1
  · obtain ⟨ln, hl, rfl⟩ := List.mem_map.mp (show r ∈ (lns z).tail.map fun ln => ((spl ln).drop 4).map wayV from hr)
    obtain ⟨w, hw, rfl⟩ := List.mem_map.mp hx
    exact (wayV_ok ((h.rd ln hl).e w hw)).1
theorem Wr.bnu {z : Str} (W : Wr z) : BNu (brdT z) := by
  have R := W.rd
  obtain ⟨Wf', ht, hs⟩ := R.wr.mp W
  obtain ⟨n0, n1, n2, n3, _⟩ := R.nu
  have el : (brdT z).rows.length = (lns z).tail.length := by show (rowsT (lns z).tail).length = _; unfold rowsT; simp
  have ec : ∀ k, (colT k (lns z).tail).length = (brdT z).rows.length := fun k => by rw [el]; unfold colT; simp
  exact ⟨⟨Wf', ⟨ec 0, fun i hi => ⟨(n1 i).1, ht i hi⟩⟩, ec 1, ec 2, fun i => (n2 i).1⟩, n0, n2, n3, hs⟩
end Com
set_option Elab.async false
set_option linter.all false
set_option maxRecDepth 100000
set_option maxHeartbeats 4000000
namespace L2
open PySem PySem.Spec PyProof.Rows
section
variable {X : Cx} {K : PySem.W.Frag}
def rSlS : V → Option Int → Option Int → Hp → VK → Prop := fun x lo hi H Q => ∃ z : Str, x = .str z ∧ z.length ≤ sizeLine ∧ Q (.str (Txt.slice z lo hi)) H
theorem part_of {v : Value} {i : Option Int} (h : IsPart v i) : ∃ p : Option (Int × Tok), v = partValue p ∧ p.map (·.1) = i := by
  cases h with
  | none => exact ⟨none, rfl, rfl⟩
  | int i t => exact ⟨some (i, t), rfl, rfl⟩
theorem sl_str : SlR X rSlS := by
  intro pins s σ H x v vl vu lo hi sl Q I rx hs pl pu h
  obtain ⟨z, rfl, hz, q⟩ := h
  obtain ⟨t, rfl⟩ := rx
  obtain ⟨l, rfl, el⟩ := part_of pl
  obtain ⟨u, rfl, eu⟩ := part_of pu
  refine ⟨"str", _, F.slot_str_getitem.lookup, typeIs_str _ _ _, ?_⟩
  refine wpAny_getItem_str_slice (l := l) (u := u) (st := none) hs rfl ?_
  have hh : (sliceMade z t l u none) = (if ((1 : Int) == 1 && (Builtin.Str.strSliceIndices lo hi 1 z.length).length == z.length) = true then Made.val (.str z t) else Made.str ⟨((Builtin.Str.strSliceIndices lo hi 1 z.length).filterMap (z.cps[·]?)).toArray⟩) := by
    unfold sliceMade slicePicked
    rw [el, eu]
    rfl
  rw [hh]
  refine post_val_or_str ⟨?_, fun t' k => ⟨.str (Txt.slice z lo hi), H, I.tok k, ⟨t', rfl⟩, q⟩⟩
  exact Nat.le_trans (Txt.slice_le z lo hi) hz
def rMulS : R2 := fun x y H Q => ∃ (z : Str) (n : Int), x = .str z ∧ y = .int n ∧ 0 ≤ n ∧ n ≤ 1000 ∧ z.length ≤ 1000 ∧ ∀ z' : Str, (∀ c ∈ z'.cps.toList, c ∈ z.cps.toList) → z'.length ≤ z.length * n.toNat → Q (.str z') H
theorem rep_mem (a : Array Nat) : ∀ (n : Nat) (b : Array Nat), (∀ c ∈ b.toList, c ∈ a.toList) → (∀ c ∈ ((List.replicate n a).foldl (· ++ ·) b).toList, c ∈ a.toList) ∧ ((List.replicate n a).foldl (· ++ ·) b).size = b.size + n * a.size
  | 0, b, h => ⟨h, by simp⟩
  | n + 1, b, h => by
    rw [List.replicate_succ, List.foldl_cons]
    obtain ⟨h1, h2⟩ := rep_mem a n (b ++ a) (fun c hc => by
      rw [Array.toList_append] at hc
      rcases List.mem_append.mp hc with q | q
      · exact h c q
      · exact q)
    refine ⟨h1, ?_⟩
    rw [h2, Array.size_append, Nat.succ_mul]
    omega
theorem op_mul_str : OpR X (binaryOp .Mult) rMulS := by
  intro pins s σ H x y v u Q I rx ry h
  obtain ⟨z, n, rfl, rfl, n0, n1, hz, q⟩ := h
  obtain ⟨t, rfl⟩ := rx
  obtain ⟨t', rfl⟩ := ry
  have hsz : z.length * n.toNat ≤ 1000 * 1000 := Nat.mul_le_mul hz (by omega)
  refine P.mul_str (by rw [decide_eq_false (by omega), decide_eq_false (by omega)]; rfl) (fun h1 _ h2 => ?_) (fun _ _ => ?_) ?_
  · have h3 := (Int.ediv_lt_iff_lt_mul (show (0 : Int) < n by omega)).mp h2
    have e : ((z.length * n.toNat : Nat) : Int) = (z.length : Int) * n := by rw [Int.natCast_mul, Int.toNat_of_nonneg n0]
    rw [← e] at h3
    omega
  · unfold Builtin.Str.tooLong
    have := sizeLine_eq
    simp
    omega
  · by_cases h1 : n < 1
    · rw [if_pos h1]
      exact ⟨by decide, .str Str.empty, H, I.tok _, ⟨_, rfl⟩, q _ (fun c hc => by cases hc) (Nat.zero_le _)⟩
    · rw [if_neg h1]
      by_cases h2 : (n == 1 || z.length == 0) = true
      · rw [if_pos h2]
        refine ⟨.str z, H, I, ⟨_, rfl⟩, q _ (fun c hc => hc) ?_⟩
        have : 1 ≤ n.toNat := by omega
        exact Nat.le_mul_of_pos_right _ this
      · rw [if_neg h2]
        obtain ⟨m1, m2⟩ := rep_mem z.cps n.toNat #[] (fun c hc => by cases hc)
        have el : (⟨(List.replicate n.toNat z.cps).foldl (· ++ ·) #[]⟩ : Str).length = z.length * n.toNat := by
          show ((List.replicate n.toNat z.cps).foldl (· ++ ·) #[]).size = _
          rw [m2, Nat.mul_comm]
          simp [Str.length]
        refine ⟨by rw [el]; have := sizeLine_eq; omega, .str _, H, I.tok _, ⟨_, rfl⟩, q _ m1 (by rw [el]; exact Nat.le_refl _)⟩
def rNeS (K : PySem.W.Frag) : R2 := fun x y H Q => ∃ (a b : Addr) (xs ys : List Str), x = .ref a ∧ y = .ref b ∧ SqL K H a (xs.map V.str) ∧ SqL K H b (ys.map V.str) ∧ Q (.bl (!decide (xs = ys))) H
theorem all_eqS : ∀ {xs ys : List Str}, xs.length = ys.length → ((List.range xs.length).all fun j => eqV (V.str (xs.getD j Str.empty)) (V.str (ys.getD j Str.empty))) = decide (xs = ys) := by
  intro xs ys hl
  rw [Bool.eq_iff_iff, List.all_eq_true, decide_eq_true_eq]
  constructor
  · intro h
    refine List.ext_getElem hl fun i h1 h2 => ?_
    have := h i (List.mem_range.mpr h1)
    simp only [eqV, List.getD_eq_getElem?_getD, List.getElem?_eq_getElem h1, List.getElem?_eq_getElem h2, Option.getD_some] at this
    simpa using this
  · rintro rfl i _
    simp [eqV]
theorem op_neS (hu : X.A.units + (0 + 1) < cLine) : OpR X (compareOp .NotEq) (rNeS X.K) := by
  intro pins s σ H x y v u Q I rx ry h
  obtain ⟨a, b, xs, ys, ex, ey, ha, hb, q⟩ := h
  subst ex ey
  cases rx
  cases ry
  obtain ⟨its, rv, pl, hz⟩ := I.list ha
  obtain ⟨its2, rv2, pl2, hz2⟩ := I.list hb
  have l1 := rv.length
  have l2 := rv2.length
  rw [List.length_map] at l1 l2
  by_cases hl : xs.length = ys.length
  · have r := SeqAt.RcNeAt.lists (A := X.A) (s := s) (e := fun j => eqV (V.str (xs.getD j Str.empty)) (V.str (ys.getD j Str.empty))) pl.isList pl2.isList (by simp only [List.size_toArray]; omega) (by omega) (fun j h1 h2 => by
      simp only [List.size_toArray] at h1 h2
      have g1 : (xs.map V.str)[j]? = some (V.str (xs.getD j Str.empty)) := by rw [List.getElem?_map, List.getElem?_eq_getElem (by omega), List.getD_eq_getElem?_getD, List.getElem?_eq_getElem (by omega)]; rfl
      have g2 : (ys.map V.str)[j]? = some (V.str (ys.getD j Str.empty)) := by rw [List.getElem?_map, List.getElem?_eq_getElem (by omega), List.getD_eq_getElem?_getD, List.getElem?_eq_getElem (by omega)]; rfl
      obtain ⟨w1, e1, r1⟩ := rv.get g1
      obtain ⟨w2, e2, r2⟩ := rv2.get g2
      have f1 : its.toArray[j] = w1 := by
        rw [List.getElem?_eq_getElem h1] at e1
        simpa using Option.some.inj e1
      have f2 : its2.toArray[j] = w2 := by
        rw [List.getElem?_eq_getElem h2] at e2
        simpa using Option.some.inj e2
      rw [f1, f2]
      exact eqAt_V r1 r2 rfl rfl)
    rw [List.size_toArray, ← l1, all_eqS hl] at r
    exact r X.prog X.w X.xe _ ⟨.bl _, H, I, rfl, q⟩
  · have r := SeqAt.RcNeAt.lists_lengths (A := X.A) (s := s) pl.isList pl2.isList (by simp only [List.size_toArray, bne_iff_ne]; omega) (by omega)
    rw [decide_eq_false (fun z => hl (by rw [z]))] at q
    exact r X.prog X.w X.xe _ ⟨.bl _, H, I, rfl, q⟩
theorem op_neSK (hK : X.K = K) (hu : X.A.units + (0 + 1) < cLine) : OpR X (compareOp .NotEq) (rNeS K) := hK ▸ op_neS hu
end
theorem comp_valsX {J : It} {xs ys : List V} {g : Nat → Prop} {σ' : St} {j : Nat} {te : TE} {Q : VK} {H : Hp} (W : Wk J xs H) (hz : xs.length ≤ sizeLine) (hl : ys.length = xs.length)
    (hs : ∀ (i : Nat) x y H3, xs[i]? = some x → ys[i]? = some y → Same H H3 → ∀ Q' : VK, (g i → ∀ H4, Same H3 H4 → Q' y H4) → te (σ'.set j (some x)) H3 Q') (hd : ∀ H' D, Same H H' → (∀ i, i < xs.length → g i) → H' D = none → Q (.ref D) (upd H' D (.lst ys))) : CompW σ' j tYes te Q J H := by
  refine comp_inv W (fun i zs H3 => Same H H3 ∧ i ≤ xs.length ∧ zs = ys.take i ∧ ∀ k, k < i → g k) ⟨Same.refl _, Nat.zero_le _, rfl, fun k h => absurd h (Nat.not_lt_zero _)⟩ (fun i zs H3 p => p.1) ?_ ?_ ?_
  · rintro i x zs H3 ex ⟨s3, hi, rfl, hg⟩
    have hi' : i < xs.length := (List.getElem?_eq_some_iff.mp ex).1
    have ey : ys[i]? = some ys[i] := List.getElem?_eq_getElem (by omega)
    show te _ _ _
    refine hs i x _ H3 ex ey s3 _ fun gi H4 s4 => ⟨s3.trans s4, hi', ?_, fun k hk => ?_⟩
    · rw [List.take_add_one, ey]
      rfl
    · rcases Nat.lt_succ_iff_lt_or_eq.mp hk with q | q
      · exact hg k q
      · rw [q]; exact gi
  · rintro i zs H3 hi ⟨s3, _, rfl, _⟩
    rw [List.length_take]
    omega
  · rintro zs H3 ⟨s3, _, rfl, hg⟩ D hD
    rw [List.take_of_length_le (by omega)]
    exact hd H3 D s3 hg hD
theorem comp_newsX {J : It} {xs : List V} {ls : List (List V)} {g : Nat → Prop} {σ' : St} {j : Nat} {te : TE} {Q : VK} {H : Hp} (W : Wk J xs H) (hz : xs.length ≤ sizeLine) (hl : ls.length = xs.length)
    (hs : ∀ (i : Nat) x l H3, xs[i]? = some x → ls[i]? = some l → Same H H3 → ∀ Q' : VK, (g i → ∀ D H4, Same H3 H4 → H3 D = none → H4 D = some (.lst l) → Q' (.ref D) H4) → te (σ'.set j (some x)) H3 Q')
    (hd : ∀ (as : List Addr) H', Same H H' → (∀ i, i < xs.length → g i) → as.length = ls.length → as.Nodup → (∀ b ∈ as, H b = none) → (∀ (i : Nat) a l, as[i]? = some a → ls[i]? = some l → H' a = some (.lst l)) → ∀ D, H' D = none → Q (.ref D) (upd H' D (.lst (as.map V.ref)))) : CompW σ' j tYes te Q J H := by
  refine comp_inv W (fun i ys H3 => Same H H3 ∧ (∀ k, k < i → g k) ∧ ∃ as : List Addr, ys = as.map V.ref ∧ as.length = i ∧ as.Nodup ∧ (∀ b ∈ as, H b = none) ∧ (∀ b ∈ as, ∃ o, H3 b = some o) ∧ ∀ (k : Nat) a l, as[k]? = some a → ls[k]? = some l → H3 a = some (.lst l))
    ⟨Same.refl _, fun k h => absurd h (Nat.not_lt_zero _), [], rfl, rfl, List.nodup_nil, (fun _ h => by cases h), (fun _ h => by cases h), fun k a l e => by simp at e⟩ (fun i ys H3 p => p.1) ?_ ?_ ?_
  · rintro i x ys H3 ex ⟨s3, hg, as, rfl, hlen, nd, fr, there, hrow⟩
    have hi : i < xs.length := (List.getElem?_eq_some_iff.mp ex).1
    have el : ls[i]? = some ls[i] := List.getElem?_eq_getElem (by omega)
    show te _ _ _
    refine hs i x _ H3 ex el s3 _ fun gi D H4 s4 hD e4 => ⟨s3.trans s4, fun k hk => ?_, as ++ [D], by simp, by simp [hlen], ?_, ?_, ?_, ?_⟩
    · rcases Nat.lt_succ_iff_lt_or_eq.mp hk with q | q
      · exact hg k q
      · rw [q]; exact gi
    · refine List.nodup_append.mpr ⟨nd, by simp, fun a ha c hc z => ?_⟩
      have : c = D := by simpa using hc
      subst this
      subst z
      obtain ⟨o, e⟩ := there a ha
      rw [hD] at e; cases e
    · intro c hc
      rcases List.mem_append.mp hc with hc | hc
      · exact fr c hc
      · have : c = D := by simpa using hc
        rw [this]; exact s3.free hD
    · intro c hc
      rcases List.mem_append.mp hc with hc | hc
      · obtain ⟨o, e⟩ := there c hc
        exact ⟨o, s4 _ _ e⟩
      · have : c = D := by simpa using hc
        rw [this]; exact ⟨_, e4⟩
    · intro k a l ea el'
      by_cases hk : k < as.length
      · rw [List.getElem?_append_left hk] at ea
        exact s4 _ _ (hrow k a l ea el')
      · rw [List.getElem?_append_right (by omega)] at ea
        have hk' : k - as.length = 0 := by
          have := (List.getElem?_eq_some_iff.mp ea).1
          simp at this
          omega
        rw [hk'] at ea
        have e1 : D = a := by simpa using ea
        have e2 : k = i := by omega
        subst e2
        rw [el] at el'
        rw [← e1, ← Option.some.inj el']
        exact e4
  · rintro i ys H3 hi ⟨s3, _, as, rfl, hlen, r⟩
    rw [List.length_map]
    omega
  · rintro ys H3 ⟨s3, hg, as, rfl, hlen, nd, fr, there, hrow⟩ D hD
    exact hd as H3 s3 hg (by omega) nd fr hrow D hD
end L2
set_option Elab.async false
set_option linter.all false
set_option maxRecDepth 100000
set_option maxHeartbeats 4000000
namespace Com
open PySem L2
structure Asc (n : Nat) (z : Str) : Prop where
  a : ∀ c ∈ z.cps.toList, c < 128
  l : z.length ≤ n
theorem Asc.all {n : Nat} {z : Str} (h : Asc n z) : z.cps.all (· < 128) = true := by
  rw [Array.all_eq_true']
  intro c hc
  have := h.a c (by simpa using hc)
  simpa using this
theorem Asc.le {n m : Nat} {z : Str} (h : Asc n z) (k : n ≤ m) : Asc m z := ⟨h.a, Nat.le_trans h.l k⟩
theorem Asc.cat {n m : Nat} {x y : Str} (h : Asc n x) (k : Asc m y) : Asc (n + m) (x ++ y) := by
  refine ⟨fun c hc => ?_, ?_⟩
  · rw [Str.cps_append, Array.toList_append] at hc
    rcases List.mem_append.mp hc with q | q
    · exact h.a c q
    · exact k.a c q
  · rw [strLen_append]
    have := h.l
    have := k.l
    omega
theorem Asc.sub {n m : Nat} {x y : Str} (h : Asc n x) (k : ∀ c ∈ y.cps.toList, c ∈ x.cps.toList) (l : y.length ≤ m) : Asc m y := ⟨fun c hc => h.a c (k c hc), l⟩
theorem slice_mem (x : Str) (l u : Option Int) : ∀ c ∈ (Txt.slice x l u).cps.toList, c ∈ x.cps.toList := by
  intro c hc
  unfold Txt.slice at hc
  split at hc
  · exact hc
  · have hc' : c ∈ (Builtin.Str.strSliceIndices l u 1 x.length).filterMap (x.cps[·]?) := by simpa using hc
    obtain ⟨i, _, e⟩ := List.mem_filterMap.mp hc'
    have := Array.mem_of_getElem? e
    simpa using this
theorem Asc.slice {n : Nat} {x : Str} (h : Asc n x) (l u : Option Int) : Asc n (Txt.slice x l u) := h.sub (slice_mem x l u) (Nat.le_trans (Txt.slice_le x l u) h.l)
theorem join_mem (c : Nat) : ∀ {l : List Str} {p : Str}, p ∈ l → (∀ d ∈ p.cps.toList, d ∈ (Str.join ⟨#[c]⟩ l).cps.toList) ∧ p.length ≤ (Str.join ⟨#[c]⟩ l).length
  | [x], p, h => by rw [List.mem_singleton.mp h]; exact ⟨fun _ q => q, Nat.le_refl _⟩
  | x :: y :: r, p, h => by
    have el : ∀ z : Str, z.length = z.cps.toList.length := fun z => Array.length_toList.symm
    have ej := cps_join c x y r
    rw [el p, el (Str.join ⟨#[c]⟩ (x :: y :: r)), ej]
    rcases List.mem_cons.mp h with q | q
    · rw [q]
      exact ⟨fun d hd => List.mem_append_left _ hd, by rw [List.length_append]; omega⟩
    · obtain ⟨a, b⟩ := join_mem c q
      rw [el p, el (Str.join ⟨#[c]⟩ (y :: r))] at b
      exact ⟨fun d hd => List.mem_append_right _ (List.mem_cons_of_mem _ (a d hd)), by rw [List.length_append, List.length_cons]; omega⟩
theorem join_count (c : Nat) : ∀ l : List Str, l.length ≤ (Str.join ⟨#[c]⟩ l).length + 1
  | [] => Nat.zero_le _
  | [x] => by simp
  | x :: y :: r => by
    have el : ∀ z : Str, z.length = z.cps.toList.length := fun z => Array.length_toList.symm
    have ih := join_count c (y :: r)
    rw [el (Str.join ⟨#[c]⟩ (y :: r))] at ih
    rw [el (Str.join ⟨#[c]⟩ (x :: y :: r)), cps_join, List.length_append, List.length_cons (as := (Str.join ⟨#[c]⟩ (y :: r)).cps.toList), List.length_cons (as := y :: r)]
    omega
theorem Asc.split {n : Nat} {z : Str} (h : Asc n z) (c : Nat) : (∀ w ∈ Txt.split z ⟨#[c]⟩, Asc n w) ∧ (Txt.split z ⟨#[c]⟩).length ≤ n + 1 := by
  have e : Str.join ⟨#[c]⟩ (Txt.split z ⟨#[c]⟩) = z := StrLaws.join_split z _
  refine ⟨fun w hw => ?_, ?_⟩
  · obtain ⟨a, b⟩ := join_mem c hw
    rw [e] at a b
    exact h.sub a (Nat.le_trans b h.l)
  · have := join_count c (Txt.split z ⟨#[c]⟩)
    rw [e] at this
    have := h.l
    omega
theorem Asc.join {n B : Nat} {c : Nat} (hc : c < 128) : ∀ {l : List Str}, (∀ p ∈ l, Asc B p) → l.length ≤ n → Asc (n * (B + 1)) (Str.join ⟨#[c]⟩ l) := fun {l} h hn => by
  refine ⟨?_, ?_⟩
  · induction l with
    | nil => intro d hd; cases hd
    | cons x r ih =>
      cases r with
      | nil => exact (h x List.mem_cons_self).a
      | cons y r =>
        intro d hd
        rw [cps_join] at hd
        rcases List.mem_append.mp hd with q | q
        · exact (h x List.mem_cons_self).a d q
        · rcases List.mem_cons.mp q with q | q
          · rw [q]; exact hc
          · exact ih (fun p hp => h p (List.mem_cons_of_mem _ hp)) (by have : (y :: r).length ≤ n := by { have := hn; simp at this ⊢; omega }; exact this) d q
  · have := join_len (⟨#[c]⟩ : Str) (B := B) (l := l) fun y hy => (h y hy).l
    have e1 : (⟨#[c]⟩ : Str).length = 1 := rfl
    rw [e1] at this
    exact Nat.le_trans this (Nat.mul_le_mul_right _ hn)
theorem fig_iff : ∀ c, c < 128 → (!(Builtin.Str.occurrences (Str.ofString "0123456789") ⟨#[c]⟩ 0 (Str.ofString "0123456789").length 1).isEmpty) = decide (48 ≤ c ∧ c ≤ 57) := by
  have key : ∀ k : _root_.Fin 128, (!(Builtin.Str.occurrences (Str.ofString "0123456789") ⟨#[k.val]⟩ 0 (Str.ofString "0123456789").length 1).isEmpty) = decide (48 ≤ k.val ∧ k.val ≤ 57) := by decide +kernel
  exact fun c h => key ⟨c, h⟩
theorem zero_is : Str.ofString "0" = ⟨#[48]⟩ := by decide +kernel
theorem isNum_by {n : Nat} {z : Str} (A : Asc n z) : IsNum z ↔ (1 ≤ z.length ∧ z.length ≤ 20) ∧ (∀ c ∈ z.cps.toList, 48 ≤ c ∧ c ≤ 57) ∧ (z.cps[0]? = some 48 → z = Str.ofString "0") := by
  constructor
  · rintro ⟨m, hm, rfl⟩
    exact ⟨⟨num_pos hm.1, num_le hm⟩, num_digit hm.1, fun e => num_lead hm.1 e rfl⟩
  · rintro ⟨⟨h1, h2⟩, hd, hz⟩
    exact isNum_of h1 h2 hd fun e => by rw [hz e]; decide +kernel
theorem slice_to (x : Str) (j : Nat) : (Txt.slice x none (some (j : Int))).cps.toList = x.cps.toList.take j := by
  have el : x.cps.toList.length = x.length := Array.length_toList
  by_cases h : j ≤ x.length
  · have := beq_iff_eq.mp (PyProof.Rows.slice_closes_to (x := x) (j := (j : Int)) ⟨by omega, by rw [el]; omega⟩)
    rw [this]
    simp
  · have e : Builtin.Str.strSliceIndices none (some (j : Int)) 1 x.length = Builtin.Str.strSliceIndices none (some (x.length : Int)) 1 x.length := by
      have h0 : ¬ ((j : Int) < 0) := by omega
      have h1 : ¬ ((x.length : Int) < 0) := by omega
      have h2 : (1 : Int) > 0 := by decide
      simp only [Builtin.Str.strSliceIndices, h0, h1, h2, if_false, if_true, Int.min_eq_right (show (x.length : Int) ≤ (j : Int) by omega), Int.min_self]
    have e2 : Txt.slice x none (some (j : Int)) = Txt.slice x none (some (x.length : Int)) := by
      unfold Txt.slice
      rw [e]
    have := beq_iff_eq.mp (PyProof.Rows.slice_closes_to (x := x) (j := (x.length : Int)) ⟨by omega, by rw [el]; omega⟩)
    rw [e2, this]
    simp
    have : x.cps.size = x.length := rfl
    omega
theorem slice_from (x : Str) (j : Nat) : (Txt.slice x (some (j : Int)) none).cps.toList = x.cps.toList.drop j := by
  have el : x.cps.toList.length = x.length := Array.length_toList
  by_cases h : j ≤ x.length
  · rw [PyProof.Rows.slice_from_eq (b := (x.length : Int)) (by omega) (by omega) rfl]
    simp
    rw [List.take_of_length_le (by rw [List.length_drop, el]; omega)]
  · rw [PyProof.Rows.slice_beyond (by omega), List.drop_of_length_le (by rw [el]; omega)]
    rfl
theorem head_by (x : Str) : HOk1 (spl x) ↔ Txt.slice x none (some 6) = Str.ofString "board " ∧ IsNum (Txt.slice x (some 6) none) := by
  have eb : (Str.ofString "board ").cps.toList = [98, 111, 97, 114, 100, 32] := by decide +kernel
  have eb5 : (Str.ofString "board").cps.toList = [98, 111, 97, 114, 100] := by decide +kernel
  have s6 := slice_to x 6
  have f6 := slice_from x 6
  constructor
  · rintro ⟨w, hw, N⟩
    have ex : x.cps.toList = [98, 111, 97, 114, 100, 32] ++ w.cps.toList := by
      have := spl_join x
      rw [hw] at this
      rw [← this, cps_join, eb5]
      rfl
    refine ⟨str_toList ?_, ?_⟩
    · show (Txt.slice x none (some ((6 : Nat) : Int))).cps.toList = _
      rw [s6, ex, eb]
      rfl
    · have : Txt.slice x (some 6) none = w := str_toList (by
        show (Txt.slice x (some ((6 : Nat) : Int)) none).cps.toList = _
        rw [f6, ex]
        rfl)
      rw [this]
      exact N
  · rintro ⟨h, N⟩
    have h1 : (Txt.slice x none (some ((6 : Nat) : Int))).cps.toList = [98, 111, 97, 114, 100, 32] := by rw [← eb]; exact congrArg (fun z : Str => z.cps.toList) h
    rw [s6] at h1
    have ew : (Txt.slice x (some 6) none).cps.toList = x.cps.toList.drop 6 := f6
    have ex : x = Str.join ⟨#[32]⟩ [Str.ofString "board", Txt.slice x (some 6) none] := str_toList (by
      rw [cps_join, eb5]
      show _ = [98, 111, 97, 114, 100] ++ 32 :: (Txt.slice x (some 6) none).cps.toList
      rw [ew]
      have := List.take_append_drop 6 x.cps.toList
      rw [h1] at this
      exact this.symm)
    refine ⟨Txt.slice x (some 6) none, ?_, N⟩
    unfold spl
    conv => lhs; rw [ex]
    refine split_join 32 (by simp) fun p hp => ?_
    simp only [List.mem_cons, List.not_mem_nil, or_false] at hp
    rcases hp with rfl | rfl
    · rw [eb5]; decide
    · obtain ⟨n, hn, e⟩ := N
      rw [e]
      exact free_of (by decide) fun c hc => (num_digit hn.1 c hc).1
end Com
set_option Elab.async false
set_option linter.all false
set_option maxRecDepth 100000
set_option maxHeartbeats 4000000
namespace L2
open PySem PySem.Spec PyProof.Rows
section
variable {X : Cx} {ex : Expr} {t : XK → TE} {th : Value → Option Addr → TS} {h₀ : ExceptHandler} {hs : List ExceptHandler} {p1 pos : Pos}
end
end L2
set_option Elab.async false
set_option linter.all false
set_option maxRecDepth 100000
set_option maxHeartbeats 4000000
namespace L2
open PySem PySem.Spec PyProof.Rows
def cxH (P : Program) (w : World) (K : PySem.W.Frag) (mg : Str → Option Value) (base : Heap) (N : List Str) (qual : Str) (scope : Scope) (f : Addr) (cd : Value) (A : Around) (outer : List Env) (s : Shared) (H : Hp) : Cx :=
  { cxOf CX0 P w K mg base N qual scope f cd A outer s H E0 with calm := false, mild := true }
theorem env_unmark {P : Program} {w : World} {K : PySem.W.Frag} {mg : Str → Option Value} {base : Heap} {A : Around} {outer : List Env} {s : Shared} {H : Hp} (e : Env0 P w K mg base A outer s H) : Env0 P w K mg base { A with handled := none } outer s H :=
  ⟨e.frames, e.mod, e.bs, e.bsz, e.funs, e.frf, e.hok, e.bare⟩
theorem inv_startH {P : Program} {w : World} {K : PySem.W.Frag} {mg : Str → Option Value} {base : Heap} {N ps : List Str} {qual : Str} {scope : Scope} {f : Addr} {cd : Value} {A : Around} {outer : List Env} {s s1 : Shared} {H : Hp} {us : List Value} {vs : List V}
    (S : FnScope N ps scope) (e0 : Env0 P w K mg base A outer s H) (hnd : Hnd A.handled H) (hl : vs.length = ps.length) (r : Vals vs us)
    (x : InCallC s s.heap.objs.size (bindL (envOfC qual scope s.heap.objs.size f cd).kindOf (ps.zip us) fun _ => none) (cellsFrom (s.heap.objs.size + 1) scope.names []) (bindC (envOfC qual scope s.heap.objs.size f cd).kindOf (ps.zip us) fun _ => none) s1) :
    Inv (cxH P w K mg base N qual scope f cd A outer s H) [] (start N vs) H s1 := by
  have I := inv_start (CX := CX0) (E := E0) (A := { A with handled := none }) S rfl (env_unmark e0) hl r x
  have ok := I.ok
  exact ⟨⟨ok.mod, ok.kind, ok.glob, ok.blt, ok.above, ok.inj, ok.has, ok.cab, (fun z => by cases z), (fun _ => hnd), Around.frames_deeper e0.frames, ok.stk, ok.exf, ok.bs, ok.bsz, ok.noex, ok.exfs, ok.funs, ok.frf⟩, I.os, I.bare, I.base, I.loc, I.cell, I.free, I.freeC, I.pin, I.hok, I.len⟩
def RoomH (k : Nat) (A : Around) : Prop := A.depth + 3 * k + 5 < recursionLimit
theorem Room.h {j k : Nat} {A : Around} (r : Room k A) (h : j ≤ k) : RoomH j A := by
  have := r.dp
  unfold RoomH
  omega
theorem RoomH.mono {j k : Nat} {A : Around} (r : RoomH k A) (h : j ≤ k) : RoomH j A := by
  unfold RoomH at *
  omega
structure FnH (P : Program) (w : World) (K : PySem.W.Frag) (mg : Str → Option Value) (base : Heap) (k : Nat) (f : Addr) (fd : FuncData) (ps : List Str) (sp : Sp) : Prop where
  len : ∀ vs H Q E, sp vs H Q E → vs.length = ps.length
  run : ∀ (A : Around) (outer : List Env) (s : Shared) (H : Hp) (args : Args) (us : List Value) (vs : List V) (Q : VK), RoomH k A → Env0 P w K mg base A outer s H → Hnd A.handled H → BindsTo s fd args (ps.zip us) → Vals vs us → sp vs H Q E0 →
    codeAny (model P w) A (.call (.ref f) args) (CR CX0 outer P w H s Q E0) s
theorem Fun.okH {P : Program} {w : World} {K : PySem.W.Frag} {mg : Str → Option Value} {base : Heap} {x qual : Str} {st : Stmt} {f : Addr} {fd : FuncData} {N ps : List Str} {k : Nat} {sp : Sp} (F : Fun K x qual st f fd) (S : FnScope N ps (defScope st)) (len : ∀ vs H Q E, sp vs H Q E → vs.length = ps.length)
    (hbody : ∀ (cdv : Value) (A : Around) (outer : List Env) (s : Shared) (H : Hp) (vs : List V) (Q : VK), RoomH k (A.deeper (envOfC qual (defScope st) s.heap.objs.size f cdv)) → sp vs H Q E0 →
      ∃ t, PSs (cxH P w K mg base N qual (defScope st) f cdv A outer s H) (defBody st) t ∧ t { nx := fun _ H' => Q .non H', rt := Q } (start N vs) H) : FnH P w K mg base (k + 1) f fd ps sp := by
  obtain ⟨oc, od, kV, doc, pm, an, cdv, ct, osl, rfl, lk, hcd⟩ := F.ex
  refine ⟨len, fun A outer s H args us vs Q hdp e0 hnd hb r hsp => ?_⟩
  have KX : K.In s.heap := e0.mod.kin.keeps fun b o e => (e0.bs b o e).1
  have hkind : ∀ y ∈ ps.zip us, (defScope st).names.lookup y.1 = some .local ∨ ((defScope st).names.lookup y.1 = some .cell ∧ ((cellsFrom (s.heap.objs.size + 1) (defScope st).names []).lookup y.1).isSome = true) := fun y hy =>
    (S.par y.1 (List.of_mem_zip (a := y.1) (b := y.2) hy).1).elim .inl fun q => .inr ⟨q, PySem.W.cellsFrom_some _ _ _ (.inl q)⟩
  refine codeAny_call_function (by unfold RoomH at hdp; omega) (KX _ _ lk) rfl S.co S.gen rfl (PySem.W.codeRec_of KX hcd) (hb _ _ _ _ (wpAny_newFunctionEnv_cells S.kind hkind fun env he s1 x => ?_))
  subst he
  refine ⟨(e0.mod.nolimit.keeps fun b o e => (e0.bs b o e).1).keeps x.toInCall.keep, codeAny_func ?_⟩
  obtain ⟨t, ht, hq⟩ := hbody cdv A outer s H vs Q (by unfold RoomH at *; show A.depth + 1 + 3 * k + 5 < _; omega) hsp
  have I := inv_startH (K := K) (mg := mg) (qual := qual) (f := f) (cd := cdv) S e0 hnd (len _ _ _ _ hsp) r x
  refine wpAny_mono (ht [] s1 (start N vs) H _ I hq) (fun fl s' hs => ?_) fun e s' hs => hs
  cases fl with
  | ret u => obtain ⟨v, σ', H', J, rv, q⟩ := hs; exact ⟨v, H', J.os, J.bare, J.base, J.hok, rv, q⟩
  | next => obtain ⟨σ', H', J, q⟩ := hs; exact ⟨V.non, H', J.os, J.bare, J.base, J.hok, rfl, q⟩
  | brk => obtain ⟨_, _, _, q⟩ := hs; exact False.elim q
  | cont => obtain ⟨_, _, _, q⟩ := hs; exact False.elim q
section
variable {X : Cx} {f : Addr} {fd : FuncData} {ps : List Str} {sp : Sp} {x : Str} {p pos : Pos} {e : Expr} {es : List Expr} {t : TA}
theorem pe_callH {e' : Addr} {k : Nat} (F : FnH X.prog X.w X.K X.mg X.base k f fd ps sp) (hh : X.A.handled = some (.ref e')) (hdp : RoomH k X.A) (hg : Gl X x) (hm : X.mg x = some (.ref f)) (hk : PySem.W.keepIn X.K (.ref f) = true) (hb : Binds X.K fd ps [])
    (ha : PA X (e :: es) t) (hdb : (x == ("__debug__" : Str)) = false := by decide) (he : starEach (e :: es) X.env = (false, eval e X.env) :: starEach es X.env := by rfl) (hpl : (backTo pos (starEach es X.env)).any (·.1) = false := by rfl) :
    PE X (.Call (.Name x p) (e :: es) [] pos) (fun σ H Q => t σ H fun vs H1 => ChainH H1 e' ∧ sp vs H1 Q E0) := by
  intro pins s σ H Q I h
  refine wpAny_Call_Name_kw (ld_glob I hg hm ?_ hdb)
  refine PySem.W.callWith_K (h₀ := X.base) I.ok.mod.kin hk (thn (ha pos pins s σ H _ I h) fun us s1 ⟨vs, H1, I1, r, qc, q'⟩ => ⟨I1.kIn, ?_⟩) he hpl
  have hb' := hb s1 us I1.kIn (by rw [List.append_nil, ← r.length]; exact F.len _ _ _ _ q')
  rw [List.append_nil] at hb'
  refine wpAny_call (codeAny_mono (F.run X.A X.stack s1 H1 ⟨us, []⟩ us vs Q hdp I1.env0 (.inr ⟨e', hh, qc⟩) hb' r q') fun r s' hq => ?_)
  cases r with
  | error e => exact False.elim hq
  | ok fl => cases fl with
    | ret u => exact I1.after hq
    | next => exact False.elim hq
    | brk => exact False.elim hq
    | cont => exact False.elim hq
theorem pe_callHH {k : Nat} (F : FnH X.prog X.w X.K X.mg X.base k f fd ps sp) (hmi : X.mild = true) (hdp : RoomH k X.A) (hg : Gl X x) (hm : X.mg x = some (.ref f)) (hk : PySem.W.keepIn X.K (.ref f) = true) (hb : Binds X.K fd ps [])
    (ha : PA X (e :: es) t) (hdb : (x == ("__debug__" : Str)) = false := by decide) (he : starEach (e :: es) X.env = (false, eval e X.env) :: starEach es X.env := by rfl) (hpl : (backTo pos (starEach es X.env)).any (·.1) = false := by rfl) :
    PE X (.Call (.Name x p) (e :: es) [] pos) (tCall sp [] E0 t) := by
  intro pins s σ H Q I h
  refine wpAny_Call_Name_kw (ld_glob I hg hm ?_ hdb)
  refine PySem.W.callWith_K (h₀ := X.base) I.ok.mod.kin hk (thn (ha pos pins s σ H _ I h) fun us s1 ⟨vs, H1, I1, r, q⟩ => ⟨I1.kIn, ?_⟩) he hpl
  have q' : sp (vs ++ []) H1 Q E0 := q
  rw [List.append_nil] at q'
  have hb' := hb s1 us I1.kIn (by rw [List.append_nil, ← r.length]; exact F.len _ _ _ _ q')
  rw [List.append_nil] at hb'
  refine wpAny_call (codeAny_mono (F.run X.A X.stack s1 H1 ⟨us, []⟩ us vs Q hdp I1.env0 (I1.hnd hmi) hb' r q') fun r s' hq => ?_)
  cases r with
  | error e => exact False.elim hq
  | ok fl => cases fl with
    | ret u => exact I1.after hq
    | next => exact False.elim hq
    | brk => exact False.elim hq
    | cont => exact False.elim hq
end
end L2
set_option Elab.async false
set_option linter.all false
set_option maxRecDepth 100000
set_option maxHeartbeats 4000000
namespace L2
open PySem PySem.Spec PyProof.Rows
section
variable {X : Cx} {pins : List (Addr × Obj)} {σ : St} {H : Hp} {s : Shared} {e : Addr}
theorem Fl.trackF {D : Addr} {c : Option Addr} (F : Fl X pins σ e (.ref D) c H s) : ∃ o vs, s.heap.get? e = some o ∧ o.cls = .ref D ∧ o.data = .fields vs ∧ CtxOf c e vs ∧ Inv X pins σ (upd H e (.frz o (excO D e))) s := by
  have hfresh := F.fresh
  have hIn := F.inv
  obtain ⟨s0, H0, B, I, os, bare, xb, sl, fl⟩ := F
  have u := xb.un fl.1 sl I.stkFree
  have fl' := fl
  obtain ⟨k1, k2, k3, oe, ws, T, oT, ts, z1, ⟨z2, z5⟩, z3, z4⟩ := fl'
  have ne0 : ∀ b ob, s0.heap.get? b = some ob → b ≠ e := fun b ob q z => by
    subst z
    by_cases hb : b ∈ frs X.stack
    · obtain ⟨_, o2, ho2, hd2⟩ := k3.mem hb
      rw [z1] at ho2
      cases ho2
      exact hd2 ws z3
    · obtain ⟨o', q'⟩ := xb.there b ob q hb
      rw [k2] at q'; cases q'
  refine ⟨oe, ws, z1, z2, z3, z5, I.call' (ch := []) os ⟨u.keep, u.slot, fun b ob q n hx => ?_, u.there, fun b xs q => ?_, fun b ob xs q => ?_, fun b ps q => ?_⟩ (fun b ob q => ?_) bare fun b z => by cases z⟩
  · rw [upd_ne (ne0 b ob q)]; exact u.free b ob q n hx
  · have z := u.tups b xs q
    rw [upd_ne (ne_of_none z hfresh)]; exact z
  · have z := u.frzs b ob xs q
    rw [upd_ne (ne_of_none z hfresh)]; exact z
  · obtain ⟨m, z⟩ := u.tbls b ps q
    exact ⟨m, by rw [upd_ne (ne_of_none z hfresh)]; exact z⟩
  · by_cases hb : b = e
    · subst hb
      rw [upd_same] at q
      cases q
      exact ⟨z1, ⟨oe, z1, z2⟩, ⟨oe, z1⟩, fun h1 h2 ⟨ox, p1, p2⟩ k => ⟨ox, k ox p1, p2⟩⟩
    · rw [upd_ne hb] at q
      exact (hIn.hok b ob q).stay (fun _ _ _ z => z) (fun c z => by rw [upd_ne (ne_of_none z hfresh)]; exact z) fun c xs z => by rw [upd_ne (ne_of_none z hfresh)]; exact z
end
section
variable {A : Around} {E : Value → Shared → Prop} {s : Shared} {prog : Program} {w : World}
theorem unchain0 {e : Addr} {o : Obj} {vs : Array Value} {b : Bool} {v : Value} {R : Result → Shared → Prop} (he : s.heap.get? e = some o) (hd : o.data = .fields vs) (h2 : vs[2]? = some .none) (hR : R (.ok (.ret .none)) s) :
    codeAny (model prog w) A (.builtin "proto.unchain" ⟨[v, .ref e, .ref e, .bool b], []⟩) R s := by
  refine codeAny_builtin entry_unchain ?_
  unfold Builtin.«proto.unchain»
  refine wpAny_bind (wpAny_field he hd h2 ?_)
  rw [if_pos (by decide)]
  exact wpAny_pure hR
theorem throwFrom {α : Type} {e e2 t C : Addr} {o : Obj} {vs : Array Value} {Q : α → Shared → Prop} (hh : A.handled = some (.ref e)) (ne : e2 ≠ e) (he : s.heap.get? e = some o) (hd : o.data = .fields vs) (h2 : vs[2]? = some .none)
    (hx : s.heap.get? e2 = some { cls := .ref C, data := .fields #[.ref t, .none, .none, .ref e, .bool true, .none] })
    (h : ∀ h', (∀ b, b ≠ e2 → h'.get? b = s.heap.get? b) → h'.get? e2 = some { cls := .ref C, data := .fields #[.ref t, .none, .ref e, .ref e, .bool true, .none] } → E (.ref e2) { s with heap := h' }) :
    wpAny (model prog w) A (do setFlight (.ref e2) none; raiseNew (.ref e2) : Sem α) Q E s := by
  unfold setFlight
  refine wpAny_bind (wpAny_bind (wpAny_field hx rfl (x := .none) rfl ?_))
  rw [if_neg (by decide)]
  refine wpAny_pure ?_
  unfold raiseNew
  refine wpAny_bind (wpAny_handled ?_)
  rw [hh]
  dsimp only
  rw [if_pos (by rw [bne_iff_ne]; intro z; injection z with z; exact ne z.symm)]
  refine wpAny_bind (wpAny_holding (wpAny_runValue (unchain0 he hd h2 ?_)))
  show wpAny _ _ (setField (.ref e2) 2 (.ref e) >>= fun _ => throw (.ref e2)) _ _ _
  refine wpAny_bind (wpAny_setField (a := e2) (i := 2) hx rfl (by simp) (wpAny_throw (h _ (fun b n => Heap.get?_update_other _ _ (Ne.symm n)) ?_)))
  exact Heap.get?_update_self _ hx rfl
theorem excVal {M : Model} {nm q : Str} {C N e : Addr} {bs bm : List Value} {hdct : Bool} {sn : List Str} {sub : List Value} {ab : Bool} {col : Option Bool} {dd : Option Addr} {k0 k1 k2 k3 k5 : Option Value} {newId : String} {o : Obj} {vs : Array Value} {c : String} {Q : Value → Shared → Prop}
    (hbase : bm.contains (.type "BaseException") = true) (hC : s.heap.get? C = some (excClassObj nm q C N bs bm hdct sn sub ab col dd k0 k1 k2 k3 k5 newId)) (he : s.heap.get? e = some o) (hc : o.cls = .ref C) (hd : o.data = .fields vs) (h : Q (.ref e) s) : wpAny M A (excFromValue (.ref e) c) Q E s := by
  have hcB : (Value.ref C :: bm).contains (.type "BaseException") = true := by rw [List.contains_cons, hbase, Bool.or_true]
  obtain ⟨ocls, odict, odata, oslots⟩ := o
  dsimp only at hc hd
  subst hc hd
  obtain ⟨hp, g, d, tk, os⟩ := s
  unfold excFromValue
  repeat (first | with_reducible refine wpAny_loadPart_at he ?_ | with_reducible refine wpAny_loadPart_at hC ?_ | (with_reducible refine wpAny_isSubtype_exc hC ?_; rw [hcB]) | wp_step)
  exact h
theorem raiseFrom {env : Env} {x c : Sem Value} {Q : Flow → Shared → Prop} {nm q nm' q' : Str} {C N D N' e : Addr} {bs bm bs' bm' : List Value} {hdct hdct' : Bool} {sn sn' : List Str} {sub sub' : List Value} {ab ab' : Bool} {col col' : Option Bool} {dd dd' : Option Addr} {k0 k1 k2 k3 k5 j0 j1 j2 j3 j5 : Option Value} {newId newId' : String}
    (hbase : bm.contains (.type "BaseException") = true) (hbase' : bm'.contains (.type "BaseException") = true) (hh : A.handled = some (.ref e))
    (h : wpAny (model prog w) A x (fun v s1 => ∃ e2, v = .ref e2 ∧ wpAny (model prog w) A c (fun cv s2 => ∃ t o vs, cv = .ref e ∧ e2 ≠ e ∧ s2.heap.get? C = some (excClassObj nm q C N bs bm hdct sn sub ab col dd k0 k1 k2 k3 k5 newId) ∧
        s2.heap.get? D = some (excClassObj nm' q' D N' bs' bm' hdct' sn' sub' ab' col' dd' j0 j1 j2 j3 j5 newId') ∧ s2.heap.get? e = some o ∧ o.cls = .ref D ∧ o.data = .fields vs ∧ vs[2]? = some .none ∧
        s2.heap.get? e2 = some { cls := .ref C, data := .fields #[.ref t, .none, .none, .none, .bool false, .none] } ∧
        ∀ h', (∀ b, b ≠ e2 → h'.get? b = s2.heap.get? b) → h'.get? e2 = some { cls := .ref C, data := .fields #[.ref t, .none, .ref e, .ref e, .bool true, .none] } → E (.ref e2) { s2 with heap := h' }) E s1) E s) :
    wpAny (model prog w) A (raiseStmt env (some x) (some c)) Q E s := by
  have hcB : (Value.ref C :: bm).contains (.type "BaseException") = true := by rw [List.contains_cons, hbase, Bool.or_true]
  unfold raiseStmt
  refine wpAny_bind (thn h fun v s1 ⟨e2, ev, h1⟩ => ?_)
  subst ev
  dsimp only
  refine wpAny_bind (wpAny_holding (thn h1 fun cv s2 ⟨t, o, vs, ec, ne, hC, hD, he, hoc, hod, h2, hx, fin⟩ => wpAny_bind (wpAny_pure ?_)))
  subst ec
  refine wpAny_bind (wpAny_holding (excVal hbase hC hx rfl rfl ?_))
  dsimp only
  rw [if_neg (by intro z; cases z)]
  refine wpAny_bind (wpAny_holding (excVal hbase' hD he hoc hod (wpAny_bind (wpAny_setField hx rfl (by simp) ?_))))
  have hx1 := Heap.get?_update_self (Obj.mapFields (·.setIfInBounds 3 (Value.ref e))) hx rfl
  refine wpAny_bind (wpAny_setField (s := { s2 with heap := s2.heap.update e2 (Obj.mapFields (·.setIfInBounds 3 (Value.ref e))) }) hx1 rfl (by simp [Obj.mapFields]) ?_)
  have hx2 := Heap.get?_update_self (Obj.mapFields (·.setIfInBounds 4 (Value.bool true))) hx1 rfl
  have oth : ∀ b, b ≠ e2 → ((s2.heap.update e2 (Obj.mapFields (·.setIfInBounds 3 (Value.ref e)))).update e2 (Obj.mapFields (·.setIfInBounds 4 (Value.bool true)))).get? b = s2.heap.get? b := fun b n => by
    rw [Heap.get?_update_other _ _ (Ne.symm n), Heap.get?_update_other _ _ (Ne.symm n)]
  have nC : C ≠ e2 := fun z => by rw [z, hx] at hC; cases hC
  have hC' := (oth C nC).trans hC
  obtain ⟨hp, g, d, tk, os⟩ := s2
  dsimp only at *
  generalize (hp.update e2 (Obj.mapFields (·.setIfInBounds 3 (Value.ref e)))).update e2 (Obj.mapFields (·.setIfInBounds 4 (Value.bool true))) = hp2 at hx2 oth hC' ⊢
  have it : wpAny (model prog w) A (isType (.ref e2)) (fun b s' => b = false ∧ s' = ⟨hp2, g, d, tk, os⟩) E ⟨hp2, g, d, tk, os⟩ := by
    repeat (first | with_reducible refine wpAny_loadPart_at hx2 ?_ | wp_step)
    exact ⟨rfl, rfl⟩
  refine wpAny_bind (thn it fun b s' ⟨eb, es⟩ => ?_)
  subst eb es
  rw [if_neg (by decide)]
  have ri : wpAny (model prog w) A (raisedInstance (.ref e2)) (fun b s' => b = .ref e2 ∧ s' = ⟨hp2, g, d, tk, os⟩) E ⟨hp2, g, d, tk, os⟩ := by
    repeat (first | with_reducible refine wpAny_loadPart_at hx2 ?_ | with_reducible refine wpAny_loadPart_at hC' ?_ | wp_step)
    exact ⟨rfl, rfl⟩
  refine wpAny_bind (thn ri fun b s' ⟨eb, es⟩ => ?_)
  subst eb es
  refine throwFrom (C := C) (t := t) hh ne ((oth e (Ne.symm ne)).trans he) hod h2 hx2 fun h' k1 k2 => ?_
  exact fin h' (fun b n => (k1 b n).trans (oth b n)) k2
end
section
variable {X : Cx} {pins : List (Addr × Obj)} {σ : St} {H : Hp} {s : Shared} {e : Addr}
theorem evalMade {R : Addr} {y : Str} {e₀ : Expr} {rest : List Expr} {t : TA} {yp cpos : Pos} {E : Value → Shared → Prop} {Q : Value → Shared → Prop} (I : Inv X pins σ H s) (hg : Gl X y) (hm : X.mg y = some (.ref R)) (hR : XCls X.K R) (ha : PA X.nox (e₀ :: rest) t) {P : List V → Hp → Prop}
    (h : t σ H fun vs H1 => vs.length ≤ sizeLine ∧ P vs H1) (k : ∀ s1 H1 vs us h' e2, Inv X pins σ H1 s1 → P vs H1 → Heap.MadeExcOf s1.heap h' e2 (.ref R) us → Q (.ref e2) { s1 with heap := h' })
    (hd : (y == ("__debug__" : Str)) = false := by decide) (he : starEach (e₀ :: rest) X.env = (false, eval e₀ X.env) :: starEach rest X.env := by rfl) (hpl : (backTo cpos (starEach rest X.env)).any (·.1) = false := by rfl) :
    wpAny (model X.prog X.w) X.A (eval (.Call (.Name y yp) (e₀ :: rest) [] cpos) X.env) Q E s := by
  obtain ⟨tl, N, nm, q, bs, hdct, sn, sub, ab, col, dd, k0, k1, k2, k3, k5, mN, hCo, hN, hni, T⟩ := own_obj I.mod.kin hR.ex
  refine wpAny_Call_ofName (ld_glob I hg hm ?_ hd)
  have hA := ha.any (pos := cpos) I h E
  have hpl' : (backTo cpos (starEach (e₀ :: rest) X.env)).any (·.1) = false := by rw [he]; show (false || (backTo cpos (starEach rest X.env)).any (·.1)) = false; rw [hpl]; rfl
  unfold callWith
  refine wpAny_bind (wpAny_holding ?_)
  rw [he] at hA hpl' ⊢
  refine Calls.evalArgs_plain (thn hA fun us s2 ⟨vs, H1, I1, rv, hz, q⟩ => wpAny_bind (wpAny_standAt ?_))
  have hC2 := I1.bk _ _ hCo
  simp only [hpl']
  have hlen : us.length ≤ sizeLine := by rw [← rv.length]; exact hz
  have hN2 := hN.keeps I1.bk
  have T2 := T.keeps I1.bk
  have fin : ∀ h' e2, Heap.MadeExcOf s2.heap h' e2 (.ref R) us → Q (.ref e2) { s2 with heap := h' } := fun h' e2 hx => k s2 H1 vs us h' e2 I1 q hx
  obtain ⟨hp, g, d, tk, os⟩ := s2
  refine wpAny_bind (wpAny_keeperOf_exc hC2 ?_)
  exact wpAny_bind (wpAny_call_exc_subT (hrest := hlen) PySem.F.excBase_ValueError T2 hC2 hN2 hni fun h' e2 hx => wpAny_bind (wpAny_holding (wpAny_point (wpAny_pure (fin h' e2 hx)))))
end
def LeavesH (X : Cx) (E : XK) : Prop := ∀ (pins : List (Addr × Obj)) (σ : St) (H : Hp) (s s' : Shared) (e : Addr) (cls : Value) (c : Option Addr) (B : Heap), Inv X pins σ H s → s'.os = s.os → AllBare s'.gens → (∀ b o, s.heap.get? b = some o → b ∉ frs X.stack → B.get? b = some o) →
  (∀ b o, s.heap.get? b = some o → b ∈ frs X.outer → ∃ sl, s'.heap.get? b = some { o with slots := sl }) → AnyC B X.stack e cls c s'.heap → E cls c H → X.xe (.ref e) s'
section
variable {P : Program} {w : World} {K : PySem.W.Frag} {mg : Str → Option Value} {base : Heap} {N : List Str} {qual : Str} {scope : Scope} {f : Addr} {cd : Value} {A : Around} {outer : List Env} {s₀ : Shared} {H₀ : Hp} {E : XK}
theorem leavesH_cx : LeavesH (cxOf (CX1 P w) P w K mg base N qual scope f cd A outer s₀ H₀ E) E := by
  intro pins σ H s s' e cls c B I os bare hB hsl hld q
  have ne : ∀ b o, s₀.heap.get? b = some o → b ≠ s₀.heap.objs.size := fun b o e => Nat.ne_of_lt (Heap.lt_size e)
  have nf : ∀ b, b ∉ frs outer → b ≠ s₀.heap.objs.size → b ∉ frs (envOfC qual scope s₀.heap.objs.size f cd :: outer) := fun b h1 h2 z => by
    rcases List.mem_cons.mp (I.stkSub b z) with y | y
    · exact h2 y
    · exact h1 y
  have tk : ∀ b o, H b = some o → b ∉ frs (envOfC qual scope s₀.heap.objs.size f cd :: outer) := fun b o e z => by
    rw [I.stkFree b z] at e
    cases e
  show wpAny (model P w) (A.deeper (envOfC qual scope s₀.heap.objs.size f cd)) (leaving (envOfC qual scope s₀.heap.objs.size f cd) (.ref e)) (fun _ s'' => CX1 P w outer H₀ s₀ E (.ref e) s'') (fun e' s'' => CX1 P w outer H₀ s₀ E e' s'') s'
  refine leaveAny I.ok.frames rfl hld fun h'' fl up => ?_
  refine ⟨e, cls, c, B, H, rfl, os.trans I.os, bare, ⟨fun a o z => ?_, fun b o z n hb => ?_, fun b o z n => I.base.free b o z n (by intro y; cases y), fun b o z hb => ?_, I.base.tups, I.base.frzs, I.base.tbls⟩, fun b o z n hb => ?_, fl, q⟩
  · refine (I.hok a o z).stay (fun c v hc y => hB c v y ?_) (fun _ y => y) fun _ _ y => y
    rcases hc with y' | y'
    · rw [y']; exact tk a o z
    · exact tk c _ y'
  · exact hB b o (I.base.keep b o z n hb (by intro y; cases y)) (nf b hb (ne b o z))
  · obtain ⟨o', z'⟩ := I.base.there b o z (by intro y; cases y)
    exact ⟨o', hB b o' z' (nf b hb (ne b o z))⟩
  · obtain ⟨s1, q1⟩ := I.base.slot b o z n hb (by intro y; cases y)
    obtain ⟨s2, q2⟩ := hsl b _ q1 hb
    obtain ⟨_, o2, ho2, hd2⟩ := I.ok.funs.mem hb
    change s₀.heap.get? b = some o2 at ho2
    rw [z] at ho2
    cases ho2
    obtain ⟨s3, q3⟩ := up b _ q2 hd2
    exact ⟨s3, q3⟩
end
theorem Inv.grown {X : Cx} {pins : List (Addr × Obj)} {σ : St} {H : Hp} {s : Shared} {h' : Heap} (I : Inv X pins σ H s) (k : ∀ b o, s.heap.get? b = some o → h'.get? b = some o) : Inv X pins σ H { s with heap := h' } :=
  I.call' (ch := []) rfl ⟨fun b o q _ _ _ => k b o q, fun b o q _ _ _ => ⟨o.slots, k b o q⟩, fun _ _ _ n _ => n, fun b o q _ => ⟨o, k b o q⟩, fun _ _ q => q, fun _ _ _ q => q, fun _ ps q => ⟨#[], by rw [Array.append_empty]; exact q⟩⟩ (I.hok.kept k) I.bare fun b z => by cases z
theorem funFrames_put {base h h' : Heap} {a : Addr} {m : Str → Option Value} (hs : Heap.SameBut a h h') (hn : h'.Ns a m) : ∀ {l : List Env}, h.FunFrames base l → h'.FunFrames base l
  | [], _ => trivial
  | env :: _, ⟨hk, ⟨L, o, hf, hb, ho, hd⟩, hr⟩ => ⟨hk, by
      by_cases q : L = a
      · obtain ⟨o', es, ep, ho', hd', _⟩ := hn
        exact ⟨L, o', hf, hb, by rw [q]; exact ho', fun vs z => by rw [hd'] at z; cases z⟩
      · exact ⟨L, o, hf, hb, (hs.2 L q).trans ho, hd⟩, funFrames_put hs hn hr⟩
theorem HldC.put {base h h' : Heap} {l : List Env} {a e L : Addr} {cls : Value} {c : Option Addr} {m m' : Str → Option Value} (x : HldC base l e cls c L h) (hb : base.get? a = none) (h0 : h.Ns a m) (hs : Heap.SameBut a h h') (hn : h'.Ns a m') : HldC base l e cls c L h' := by
  obtain ⟨k1, k2, k3, oe, vs, T, oT, ts, he, hc, hd, h1, nT, nTe, hT, dT, h3⟩ := x
  obtain ⟨oa, es, ep, ha, hda, _⟩ := id h0
  have n1 : e ≠ a := fun z => by rw [z, ha] at he; cases he; rw [hda] at hd; cases hd
  have n2 : T ≠ a := fun z => by rw [z, ha] at hT; cases hT; rw [hda] at dT; cases dT
  exact ⟨fun b o q => (hs.2 b fun z => by rw [z, hb] at q; cases q).trans (k1 b o q), k2, funFrames_put hs hn k3, oe, vs, T, oT, ts, (hs.2 e n1).trans he, hc, hd, h1, nT, nTe, (hs.2 T n2).trans hT, dT, h3⟩
theorem backAt {M : Model} {A : Around} {E : Value → Shared → Prop} {s : Shared} {base : Heap} {l : List Env} {env : Env} {L e : Addr} {cls : Value} {c : Option Addr} {what : String} {Q : Unit → Shared → Prop} (hf : env.frame = some L) (x : HldC base l e cls c L s.heap) (h : ∀ h', HldC base l e cls c L h' → s.heap.UpToSlots h' → Q () { s with heap := h' }) :
    wpAny M A (do
      if (← field (.ref e) 1) == .none then unsupported what
      setFlight (.ref e) env.frame) Q E s := by
  obtain ⟨k1, k2, k3, tr⟩ := x
  obtain ⟨oe, vs, T, oT, ts, he, hc, hd, h1, nT, nTe, hT, dT, h3⟩ := id tr
  refine wpAny_bind (wpAny_field he hd h1 ?_)
  rw [if_neg (by intro z; cases z), hf]
  exact flightAt k1 k2 k3 tr h
def tHsF (K : PySem.W.Frag) (i : Nat) (C R : Addr) (E : XK) (t : TA) (tr : Value → Option Addr → TS) : Value → Option Addr → TS := fun cls c D σ H =>
  ∃ (B : Addr) (b : Bool), cls = .ref B ∧ B ≠ C ∧ PySem.W.kitOne K (.ref B) (.ref C) = some b ∧ if b = true then c = none ∧ XCls K B ∧ ∀ e o ws, H e = none → o.cls = .ref B → o.data = .fields ws → ws[2]? = some .none → t (σ.set i (some (.ref e))) (upd H e (.frz o (excO B e))) (fun vs H1 => vs.length ≤ sizeLine ∧ H1 e = some (.frz o (excO B e)) ∧ E (.ref R) (some e) H1) else tr cls c D σ H
section
variable {X : Cx} {i : Nat} {n x y : Str} {C R : Addr} {np yp cpos rp rpos pos : Pos} {e₀ : Expr} {es : List Expr} {rest : List ExceptHandler} {t : TA} {tr : Value → Option Addr → TS} {E : XK}
theorem ph_from (hst : X.stack = X.env :: X.outer) (hfr : X.env.frame = some X.env.locals) (hL : LeavesH X E) (hN : X.N.Nodup) (hi : X.N[i]? = some n) (hkl : X.env.kindOf n = some .local) (hvis : Vis X.env.scope n) (hg : Gl X x) (hm : X.mg x = some (.ref C)) (hB : PySem.W.kitOne X.K (.ref C) (.type "BaseException") = some true)
    (hgy : Gl X y) (hmy : X.mg y = some (.ref R)) (hR : XCls X.K R) (ha : ∀ e, PA (XA X e).nox (e₀ :: es) t) (hr : PH X rest tr)
    (hd : (x == ("__debug__" : Str)) = false := by decide) (hdy : (y == ("__debug__" : Str)) = false := by decide) (hdn : (n == ("__debug__" : Str)) = false := by decide) (hcd : (n == ("__classdict__" : Str)) = false := by decide) (he : starEach (e₀ :: es) X.env = (false, eval e₀ X.env) :: starEach es X.env := by rfl) (hpl : (backTo cpos (starEach es X.env)).any (·.1) = false := by rfl) :
    PH X (.ExceptHandler (some (.Name x np)) (some n) [.Raise (some (.Call (.Name y yp) (e₀ :: es) [] cpos)) (some (.Name n rp)) rpos] pos :: rest) (tHsF X.K i C R E t tr) := by
  intro e cls c pins s σ H D F h
  have I := F.inv
  obtain ⟨o, he', hc⟩ := F.there
  refine wpAny_handleBy_cons (codeAny_handlers_test (ld_glob (X := XA X e) (I.caught e) hg hm ?_ hd)) (by intro z; cases z)
  obtain ⟨B, b, ec, nB, kB, q⟩ := h
  subst ec
  refine match_other I.kIn nB kB hB he' hc ?_
  cases b with
  | false => exact hr e (.ref B) c pins s σ H D F q
  | true =>
    obtain ⟨ec, hXB, qq⟩ := (show _ ∧ _ ∧ _ from q)
    subst ec
    refine codeAny_handlers_suite_as (F.again fun s' F' => ?_)
    obtain ⟨ox, ws, _, g2, g3, g4, I'⟩ := F'.trackF
    have hq := qq e ox ws F.fresh g2 g3 g4
    refine store_ok (X := XA X e) (I'.caught e) hN hi (.inl hkl) (v := .ref e) rfl (fun s2 I2 => ?_) (.inr hkl)
    have hiσ : i < σ.length := by rw [I.len]; exact (List.getElem?_eq_some_iff.mp hi).1
    refine wpAny_execs_cons ?_
    rw [arm_exec_Raise]
    obtain ⟨tl, N1, nm, q1, bs, hdct, sn, sub, ab, col, dd, k0, k1, k2, k3, k5, mN, hCo, hN1, hni, T⟩ := own_obj I.mod.kin hR.ex
    obtain ⟨tl', N1', nm', q1', bs', hdct', sn', sub', ab', col', dd', k0', k1', k2', k3', k5', mN', hCo', hN1', hni', T'⟩ := own_obj I.mod.kin hXB.ex
    refine wpAny_bind (wpAny_standAt (raiseFrom (C := R) (D := B) (e := e) (nm := nm) (q := q1) (N := N1) (bs := bs) (bm := tl) (hdct := hdct) (sn := sn) (sub := sub) (ab := ab) (col := col) (dd := dd) (k0 := k0) (k1 := k1) (k2 := k2) (k3 := k3) (k5 := k5) (newId := "ValueError.__new__") (nm' := nm') (q' := q1') (N' := N1') (bs' := bs') (bm' := tl') (hdct' := hdct') (sn' := sn') (sub' := sub') (ab' := ab') (col' := col') (dd' := dd') (j0 := k0') (j1 := k1') (j2 := k2') (j3 := k3') (j5 := k5') (newId' := "ValueError.__new__") (T.hasType (by decide)) (T'.hasType (by decide)) rfl (wpAny_bind (evalMade (X := XA X e) I2 hgy hmy hR (ha e) hq (fun s3 H3 vs us h3 e2 I3 q3 hx => wpAny_bind (wpAny_standAt (wpAny_pure ?_))) hdy he hpl))))
    refine ⟨e2, rfl, ?_⟩
    have I4 := I3.grown hx.keeps
    obtain ⟨m, hn, hl⟩ := id I4.loc
    obtain ⟨u, ru, lu⟩ := hl i n (.ref e) hi (List.getElem?_set_self hiσ) hvis
    obtain rfl : u = .ref e := ru
    have hmn : m n = some (.ref e) := by
      rcases lu with ⟨_, z⟩ | ⟨k, _⟩
      · exact z
      · rcases k with k | k <;> (change X.env.kindOf n = _ at k; rw [hkl] at k; cases k)
    refine wpAny_bind (wpAny_Name (wpAny_loadName_local I.ok.kind hkl hn hmn (wpAny_bind (wpAny_standAt (wpAny_pure ?_)))) hdn)
    have g1 : s3.heap.get? e = some ox := (show ObjOk X.prog X.w H3 s3.heap e (.frz ox (excO B e)) from I3.hok e _ q3.1).1
    obtain ⟨tt, hee, _, _⟩ := hx.there
    have ne2 : e2 ≠ e := fun z => by have y := hx.new; rw [z, g1] at y; cases y
    refine ⟨tt, ox, ws, rfl, ne2, hx.keeps _ _ (I3.bk _ _ hCo), hx.keeps _ _ (I3.bk _ _ hCo'), hx.keeps _ _ g1, g2, g3, g4, hee, fun h' kk ke => ?_⟩
    have kAll : ∀ b o, s3.heap.get? b = some o → h'.get? b = some o := fun b o z => (kk b fun y => by rw [y, hx.new] at z; cases z).trans (hx.keeps b o z)
    have hin : ∀ env ∈ X.stack, ∀ b, env.frame = some b → b ∈ frs X.stack := fun env he b hb => List.mem_filterMap.mpr ⟨env, he, hb⟩
    have hst0 := PySem.W.funFrames_hide I3.stack hin
    have hk : (PySem.W.hideAll s3.heap (frs X.stack)).StaysIn s3.heap := fun b o z => PySem.W.of_hideAll _ z
    have hnew : (PySem.W.hideAll s3.heap (frs X.stack)).get? e2 = none := by
      cases z : (PySem.W.hideAll s3.heap (frs X.stack)).get? e2 with
      | none => rfl
      | some o' => have y := hk e2 o' z; rw [hx.new] at y; cases y
    have hBg : ∀ b o, s3.heap.get? b = some o → b ∉ frs X.stack → (PySem.W.hideAll s3.heap (frs X.stack)).get? b = some o := fun b o z hb => PySem.W.hideAll_get _ z hb
    have hloc : X.env.locals ∈ frs X.stack := hin X.env (by rw [hst]; exact .head _) _ hfr
    have hBl : (PySem.W.hideAll s3.heap (frs X.stack)).get? X.env.locals = none := PySem.W.hideAll_none _ hloc
    have frm : (X.A.mark (some (.ref e))).frames = some (X.env :: X.outer) := by rw [← hst]; exact I.ok.frames
    have nloc : ∀ b ∈ frs X.outer, b ≠ X.env.locals := fun b hb z => by
      obtain ⟨_, o, ho, _⟩ := I.ok.funs.mem hb
      have h1 := Heap.lt_size ho
      rw [z] at h1
      exact absurd h1 (Nat.not_lt.mpr I.ok.above)
    have nfl : ∀ b o, s3.heap.get? b = some o → b ∈ frs X.outer → ∀ vs, o.data ≠ .fields vs := fun b o z hb => by
      obtain ⟨_, o2, z2, hd2⟩ := hst0.mem (show b ∈ frs X.stack by rw [hst]; unfold frs; rw [List.filterMap_cons, hfr]; exact List.mem_cons_of_mem _ hb)
      rw [z] at z2; cases z2; exact hd2
    obtain ⟨m3, hn3, _⟩ := id I3.loc
    generalize PySem.W.hideAll s3.heap (frs X.stack) = B0 at hst0 hk hnew hBg hBl
    change s3.heap.FunFrames B0 X.stack at hst0
    rw [hst] at hst0
    refine noteNew (s := { s3 with heap := h' }) (c := some e) (base := B0) frm (hst0.of_keeps fun b o z _ => ⟨o, kAll b o z, rfl⟩) hfr ke (fun b o z => kAll b o (hk b o z)) hnew rfl rfl ⟨rfl, Ne.symm ne2⟩ fun h4 hld up4 => ?_
    have hn4 : h4.Ns X.env.locals m3 := up4.ns (hn3.keeps kAll)
    refine wpAny_nameGoes (s := { s3 with heap := h4 }) hkl hn4 (by rw [I.ok.kind]; rfl) fun h5 m5 hn5 hs5 => ?_
    have hld5 := hld.put hBl hn4 hs5 hn5
    have hp : (PySem.passOn "try.except-as" (.ref e2) X.env : Sem Flow) = ((do
        if (← field (.ref e2) 1) == .none then unsupported "try.except-as:exception-without-traceback"
        setFlight (.ref e2) X.env.frame) >>= fun _ => throw (.ref e2)) := by
      unfold PySem.passOn
      simp only [bind_assoc]
      congr 1
      funext v
      by_cases hv : (v == Value.none) = true
      · simp only [hv, if_true]; rfl
      · simp only [hv]; rfl
    rw [hp]
    refine wpAny_bind (backAt (s := { s3 with heap := h5, toks := s3.toks + 1 }) hfr hld5 fun h6 hld6 up6 => wpAny_throw ?_)
    refine noteAgain hfr hld6.2.2.2 ?_
    refine backAt (s := { s3 with heap := h6, toks := s3.toks + 1 }) hfr hld6 fun h7 hld7 up7 => ?_
    refine hL pins _ H3 s3 _ e2 (.ref R) (some e) B0 (I3.uncaught I.ok) rfl I3.bare hBg (fun b o z hb => ?_) (by rw [hst]; exact hld7.any) q3.2
    obtain ⟨s4, z4⟩ := up4 b o (kAll b o z) (nfl b o z hb)
    have z5 := (hs5.2 b (nloc b hb)).trans z4
    obtain ⟨s6, z6⟩ := up6 b _ z5 (nfl b o z hb)
    obtain ⟨s7, z7⟩ := up7 b _ z6 (nfl b o z hb)
    exact ⟨s7, z7⟩
end
def tHsK (K : PySem.W.Frag) (i : Nat) (C : Addr) (tb : Addr → TS) (tr : Value → Option Addr → TS) : Value → Option Addr → TS := fun cls c D σ H =>
  ∃ (B : Addr) (b : Bool), cls = .ref B ∧ B ≠ C ∧ PySem.W.kitOne K (.ref B) (.ref C) = some b ∧ if b = true then ∀ e o vs, H e = none → o.cls = .ref B → o.data = .fields vs → CtxOf c e vs → tb e (unb i D) (σ.set i (some (.ref e))) (upd H e (.frz o (excO B e))) else tr cls c D σ H
section
variable {X : Cx} {i : Nat} {n x : Str} {C : Addr} {np pos : Pos} {b₀ : Stmt} {suite : List Stmt} {rest : List ExceptHandler} {tb : Addr → TS} {tr : Value → Option Addr → TS}
theorem ph_asK (hN : X.N.Nodup) (hi : X.N[i]? = some n) (hkl : X.env.kindOf n = some .local) (hvis : Vis X.env.scope n) (hg : Gl X x) (hm : X.mg x = some (.ref C)) (hB : PySem.W.kitOne X.K (.ref C) (.type "BaseException") = some true) (hs : ∀ e, PSs (XA X e) (b₀ :: suite) (tb e)) (hr : PH X rest tr)
    (hd : (x == ("__debug__" : Str)) = false := by decide) :
    PH X (.ExceptHandler (some (.Name x np)) (some n) (b₀ :: suite) pos :: rest) (tHsK X.K i C tb tr) := by
  intro e cls c pins s σ H D F h
  have I := F.inv
  obtain ⟨o, he, hc⟩ := F.there
  refine wpAny_handleBy_cons (codeAny_handlers_test (ld_glob (X := XA X e) (I.caught e) hg hm ?_ hd)) (by intro z; cases z)
  obtain ⟨B, b, ec, nB, kB, q⟩ := h
  subst ec
  refine match_other I.kIn nB kB hB he hc ?_
  cases b with
  | true =>
    have q' : ∀ e o vs, H e = none → o.cls = .ref B → o.data = .fields vs → CtxOf c e vs → tb e (unb i D) (σ.set i (some (.ref e))) (upd H e (.frz o (excO B e))) := q
    refine codeAny_handlers_suite_as (F.again fun s' F' => ?_)
    obtain ⟨ox, ws, _, g2, g3, g4, I'⟩ := F'.trackF
    have hq := q' e ox ws F.fresh g2 g3 g4
    refine store_ok (X := XA X e) (I'.caught e) hN hi (.inl hkl) (v := .ref e) rfl (fun s2 I2 => ?_) (.inr hkl)
    refine wpAny_mono (hs e pins s2 _ _ _ I2 hq) (fun f s3 z => ?_) fun _ _ z => z.elim
    exact unbind_suite I.ok hN hi hkl hvis (SP.uncaught I.ok z)
  | false => exact hr e (.ref B) c pins s σ H D F q
end
section
variable {X : Cx}
def rIsF (K : PySem.W.Frag) : List V → Hp → VK → Prop := fun xs H Q => ∃ a o D cv c b, xs = [.ref a, cv] ∧ clsV cv = some c ∧ H a = some (.frz o (excO D a)) ∧ XIs K D ∧ PySem.W.kitOne K (.ref D) c = some b ∧ Q (.bl b) H
theorem call_isf {K : PySem.W.Frag} (hK : X.K = K) : CallR X (.builtin "isinstance") (rIsF K) := by
  subst hK
  intro pins s σ H xs us Q I r h
  obtain ⟨a, o, D, cv, c, b, rfl, hc, ha, F, e, q⟩ := h
  obtain ⟨u, w', rfl, ru, rc⟩ := vals2 r
  have ec := clsV_rel hc rc
  subst ec
  cases ru
  obtain ⟨_, p, _⟩ := (show ObjOk X.prog X.w H s.heap a (.frz o (excO D a)) from I.hok a _ ha)
  exact PySem.W.kia_one (kitx_exc F) I.kIn p e (fun z => nomatch z) fun tk => ⟨.bl b, H, I.tok tk, rfl, q⟩
end
theorem funFrames_re {base base' h h' : Heap} (nB : ∀ b, base.get? b = none → base'.get? b = none) : ∀ {l : List Env}, (∀ b ∈ frs l, h'.get? b = h.get? b) → h.FunFrames base l → h'.FunFrames base' l
  | [], _, _ => trivial
  | env :: r, k, ⟨hk, ⟨L, o, hf, hb, ho, hd⟩, hr⟩ => ⟨hk, ⟨L, o, hf, nB L hb, (k L (by unfold frs; rw [List.filterMap_cons, hf]; exact List.mem_cons_self)).trans ho, hd⟩, funFrames_re nB (fun b hb' => k b (by unfold frs; rw [List.filterMap_cons, hf]; exact List.mem_cons_of_mem _ hb')) hr⟩
theorem passOnAny {α : Type} {M : Model} {A : Around} {E : Value → Shared → Prop} {s : Shared} {base : Heap} {l : List Env} {env : Env} {e : Addr} {cls : Value} {c : Option Addr} {what : String} {Q : α → Shared → Prop} (x : AnyC base l e cls c s.heap) (h : ∀ h', AnyC base l e cls c h' → s.heap.UpToSlots h' → E (.ref e) { s with heap := h' }) :
    wpAny M A (PySem.passOn what (.ref e) env : Sem α) Q E s := by
  obtain ⟨k1, k2, k3, fl, tr⟩ := id x
  obtain ⟨oe, vs, T, oT, ts, he, hc, hd, h1, nT, nTe, hT, dT, h3⟩ := id tr
  unfold PySem.passOn
  refine wpAny_bind (wpAny_field he hd h1 ?_)
  rw [if_neg (by intro z; cases z)]
  exact wpAny_bind (passAny x fun h' y up => wpAny_throw (h h' y up))
section
variable {P : Program} {w : World} {K : PySem.W.Frag} {mg : Str → Option Value} {base : Heap} {N : List Str} {qual : Str} {scope : Scope} {f : Addr} {cd : Value} {A : Around} {outer : List Env} {s₀ : Shared} {H₀ : Hp} {E : XK}
theorem passC {sc : Scope} {N' : List Str} {C : Addr} {cl : List (Str × Addr)} {s : Shared} {H : Hp} {fp : List Addr} (hI : InC (cxOf (CX1 P w) P w K mg base N qual scope f cd A outer s₀ H₀ E) H s fp) :
    Passes (CX1 P w) (cxIn (cxOf (CX1 P w) P w K mg base N qual scope f cd A outer s₀ H₀ E) sc N' C cl s H fp) E := by
  obtain ⟨pins, σ, I, hf⟩ := hI
  intro pins' σ' H3 s3 ev s' I' h
  have I3 : Inv (cxOf (CX1 P w) P w K mg base N qual scope f cd A outer s₀ H₀ E) pins σ H3 s3 := I.call' I'.os I'.base I'.hok I'.bare fun b hb => let ⟨_, a, _, c, d, e⟩ := hf b hb; ⟨c, a, d, e⟩
  obtain ⟨e, cls, c, B, H', rfl, os, bare, xb, sl, fl, q⟩ := h
  have above : s.heap.objs.size ≤ C := I'.ok.above
  have stk : ∀ b ∈ frs (envOfC qual scope s₀.heap.objs.size f cd :: outer), ∃ o, s.heap.get? b = some o := fun b hb => by
    obtain ⟨_, o, ho, _⟩ := I.stack.mem hb
    exact ⟨o, ho⟩
  have hCf : C ∉ frs (envOfC qual scope s₀.heap.objs.size f cd :: outer) := fun z => by
    obtain ⟨o, ho⟩ := stk C z
    exact absurd (Heap.lt_size ho) (Nat.not_lt.mpr above)
  obtain ⟨m, hn, _⟩ := id I'.loc
  obtain ⟨oC, es, ep, gC, dC, rC⟩ := id hn
  have hC3 : H3 C = none := I'.free
  have kC : B.get? C = some oC := xb.keep C oC gC hC3 hCf
  have fC : H' C = none := xb.free C oC gC hC3
  show wpAny (model P w) (A.deeper (envOfC qual scope s₀.heap.objs.size f cd)) (noteFrame (.ref e) (envOfC qual scope s₀.heap.objs.size f cd)) _ _ s'
  refine noteOn I.ok.frames rfl fl fun h4 hld up4 => ?_
  have n4 : h4.Ns C m := ⟨oC, es, ep, hld.1 _ _ kC, dC, rC⟩
  refine ⟨m, n4, fun h5 sb cenv _ => ?_⟩
  obtain ⟨k1, k2, k3, oe, vs, T, oT, ts, g1, g2, g3, g4, g5, g6, g7, g8, g9⟩ := id hld
  have ne : ∀ b o ws, h4.get? b = some o → o.data = .fields ws → b ≠ C := fun b o ws q d z => by
    rw [z, hld.1 _ _ kC] at q
    cases q
    rw [dC] at d
    cases d
  have oB : ∀ b o, (B.hide C).get? b = some o → B.get? b = some o ∧ b ≠ C := fun b o q => ⟨Heap.of_hide q, fun z => by rw [z, Heap.hide_self] at q; cases q⟩
  have nB : ∀ b, B.get? b = none → (B.hide C).get? b = none := fun b q => by
    cases z : (B.hide C).get? b with
    | none => rfl
    | some o => rw [(oB b o z).1] at q; cases q
  have ht : ∀ b o, B.get? b = some o → b ≠ C → (B.hide C).get? b = some o := fun b o q n => (Heap.hide_ne B n).trans q
  have any5 : AnyC (B.hide C) (envOfC qual scope s₀.heap.objs.size f cd :: outer) e cls c h5 := by
    refine ⟨fun b o q => (sb.2 b (oB b o q).2).trans (k1 b o (oB b o q).1), nB e k2, funFrames_re nB (fun b hb => sb.2 b fun z => hCf (z ▸ hb)) k3, _, oe, vs, T, oT, ts, (sb.2 e (ne _ _ _ g1 g3)).trans g1, g2, g3, g4, nB T g5, g6, (sb.2 T (ne _ _ _ g7 g8)).trans g7, g8, g9⟩
  have neC : ∀ b o, s₀.heap.get? b = some o → b ≠ C := fun b o q => Nat.ne_of_lt (Nat.lt_of_lt_of_le (Heap.lt_size q) (Nat.le_trans I.sz above))
  have ne0 : ∀ b o, s₀.heap.get? b = some o → b ≠ s₀.heap.objs.size := fun b o e => Nat.ne_of_lt (Heap.lt_size e)
  have nf : ∀ b, b ∉ frs outer → b ≠ s₀.heap.objs.size → b ∉ frs (envOfC qual scope s₀.heap.objs.size f cd :: outer) := fun b h1 h2 z => by
    rcases List.mem_cons.mp (I.stkSub b z) with y | y
    · exact h2 y
    · exact h1 y
  refine passOnAny (s := { s' with heap := h5 }) any5 fun h6 any6 up6 => ?_
  show wpAny (model P w) (A.deeper (envOfC qual scope s₀.heap.objs.size f cd)) (leaving (envOfC qual scope s₀.heap.objs.size f cd) (.ref e)) (fun _ s'' => CX1 P w outer H₀ s₀ E (.ref e) s'') (fun e' s'' => CX1 P w outer H₀ s₀ E e' s'') _
  refine leaveAny (s := { s' with heap := h6 }) I.ok.frames rfl any6 fun h7 fl7 up7 => ?_
  refine ⟨e, cls, c, B.hide C, H', rfl, os.trans I3.os, bare, ⟨fun a o z => ?_, fun b o z n hb => ?_, fun b o z n => ?_, fun b o z hb => ?_, fun b xs z => xb.tups b xs (I3.base.tups b xs z), fun b o u z => xb.frzs b o u (I3.base.frzs b o u z), fun b ps z => ?_⟩, fun b o z n hb => ?_, fl7, q⟩
  · refine (xb.hok a o z).stay (fun c' v hc y => ht c' v y ?_) (fun _ y => y) fun _ _ y => y
    rcases hc with y' | y'
    · rw [y']; intro w'; rw [w', fC] at z; cases z
    · intro w'; rw [w', fC] at y'; cases y'
  · exact ht b o (xb.keep b o (I3.base.keep b o z n hb (by intro y; cases y)) (I3.base.free b o z n (by intro y; cases y)) (nf b hb (ne0 b o z))) (neC b o z)
  · obtain ⟨o', q'⟩ := I3.base.there b o z (by intro y; cases y)
    exact xb.free b o' q' (I3.base.free b o z n (by intro y; cases y))
  · obtain ⟨o', q'⟩ := I3.base.there b o z (by intro y; cases y)
    obtain ⟨o2, q2⟩ := xb.there b o' q' (nf b hb (ne0 b o z))
    exact ⟨o2, ht b o2 q2 (neC b o z)⟩
  · obtain ⟨m1, q1⟩ := I3.base.tbls b ps z
    obtain ⟨m2, q2⟩ := xb.tbls b _ q1
    exact ⟨m1 ++ m2, by rw [q2, Array.append_assoc]⟩
  · obtain ⟨s1, q1⟩ := I3.base.slot b o z n hb (by intro y; cases y)
    obtain ⟨s2, q2⟩ := sl b _ q1 (I3.base.free b o z n (by intro y; cases y)) (List.mem_cons_of_mem _ hb)
    obtain ⟨_, o2, ho2, hd2⟩ := I3.ok.funs.mem hb
    change s₀.heap.get? b = some o2 at ho2
    rw [z] at ho2
    cases ho2
    obtain ⟨s3', q3⟩ := up4 b _ q2 hd2
    have q5 := (sb.2 b (neC b o z)).trans q3
    obtain ⟨s6, q6⟩ := up6 b _ q5 hd2
    obtain ⟨s7, q7⟩ := up7 b _ q6 hd2
    exact ⟨s7, q7⟩
end
end L2
set_option Elab.async false
set_option linter.all false
set_option maxRecDepth 100000
set_option maxHeartbeats 4000000
namespace Law
open PySem L2 Com
def top (i : Nat) : Stmt := PySem.Challenge.pw_marblerun_k25_texts_refused.main.body.getD i (.Pass ⟨0, 0, 0, 0⟩)
abbrev s_check_rows : Stmt := top 13
abbrev s_check_row : Stmt := top 14
abbrev s_check_site : Stmt := top 15
abbrev s_Binit : Stmt := inClass (top 16) 0
abbrev s_Bturn_to : Stmt := inClass (top 16) 1
abbrev s_Bload : Stmt := inClass (top 16) 2
abbrev s_written : Stmt := top 23
abbrev s_site_line : Stmt := top 24
abbrev s_way_word : Stmt := top 25
abbrev s_read : Stmt := top 26
abbrev s_told : Stmt := top 27
abbrev s_read_head : Stmt := top 28
abbrev s_read_numbers : Stmt := top 29
abbrev s_read_row : Stmt := top 30
abbrev s_read_way : Stmt := top 31
abbrev s_read_number : Stmt := top 32
abbrev s_drawn : Stmt := top 34
abbrev s_other : Stmt := top 35
abbrev s_rows_by : Stmt := top 36
abbrev s_turns_by : Stmt := top 37
abbrev s_loads_by : Stmt := top 38
abbrev s_board : Stmt := top 39
abbrev s_number : Stmt := top 40
abbrev s_exit : Stmt := top 41
abbrev s_writes : Stmt := top 42
abbrev s_odd : Stmt := top 43
abbrev s_changed : Stmt := top 44
abbrev s_law : Stmt := top 45
set_option genInjectivity false in
set_option genSizeOfSpec false in
structure Adr where
  C : Addr
  f_check_rows : Addr
  fd_check_rows : FuncData
  f_check_row : Addr
  fd_check_row : FuncData
  f_check_site : Addr
  fd_check_site : FuncData
  f_Binit : Addr
  fd_Binit : FuncData
  f_Bturn_to : Addr
  fd_Bturn_to : FuncData
  f_Bload : Addr
  fd_Bload : FuncData
  f_written : Addr
  fd_written : FuncData
  f_site_line : Addr
  fd_site_line : FuncData
  f_way_word : Addr
  fd_way_word : FuncData
  f_read : Addr
  fd_read : FuncData
  f_told : Addr
  fd_told : FuncData
  f_read_head : Addr
  fd_read_head : FuncData
  f_read_numbers : Addr
  fd_read_numbers : FuncData
  f_read_row : Addr
  fd_read_row : FuncData
  f_read_way : Addr
  fd_read_way : FuncData
  f_read_number : Addr
  fd_read_number : FuncData
  f_drawn : Addr
  fd_drawn : FuncData
  f_other : Addr
  fd_other : FuncData
  f_rows_by : Addr
  fd_rows_by : FuncData
  f_turns_by : Addr
  fd_turns_by : FuncData
  f_loads_by : Addr
  fd_loads_by : FuncData
  f_board : Addr
  fd_board : FuncData
  f_number : Addr
  fd_number : FuncData
  f_exit : Addr
  fd_exit : FuncData
  f_writes : Addr
  fd_writes : FuncData
  f_odd : Addr
  fd_odd : FuncData
  f_changed : Addr
  fd_changed : FuncData
  f_law : Addr
  fd_law : FuncData
  t_PIT : Tok
  t_MOST_SITES : Tok
  t_MOST_EXITS : Tok
  t_MOST_MARBLES : Tok
  t_HEAD : Tok
  t_MARK : Tok
  t_PIT_WORD : Tok
  t_FIGURES : Tok
  t_MOST_FIGURES : Tok
  c_NoSite : Addr
  c_NoExit : Addr
  c_NoPlace : Addr
  c_TooMany : Addr
  c_NoBoard : Addr
  c_BoardError : Addr
structure Txt (K : PySem.W.Frag) (mg : Str → Option Value) (A : Adr) : Prop where
  F_check_rows : Fun K "check_rows" "check_rows" s_check_rows A.f_check_rows A.fd_check_rows
  m_check_rows : mg "check_rows" = some (.ref A.f_check_rows)
  k_check_rows : PySem.W.keepIn K (.ref A.f_check_rows) = true
  b_check_rows : Binds K A.fd_check_rows ["rows"] []
  F_check_row : Fun K "check_row" "check_row" s_check_row A.f_check_row A.fd_check_row
  m_check_row : mg "check_row" = some (.ref A.f_check_row)
  k_check_row : PySem.W.keepIn K (.ref A.f_check_row) = true
  b_check_row : Binds K A.fd_check_row ["row", "sites"] []
  F_check_site : Fun K "check_site" "check_site" s_check_site A.f_check_site A.fd_check_site
  m_check_site : mg "check_site" = some (.ref A.f_check_site)
  k_check_site : PySem.W.keepIn K (.ref A.f_check_site) = true
  b_check_site : Binds K A.fd_check_site ["board", "at"] []
  F_Binit : Fun K "__init__" "Board.__init__" s_Binit A.f_Binit A.fd_Binit
  mk_Board : Mk K A.C A.f_Binit
  bi_Board : Binds K A.fd_Binit ["self", "rows"] []
  F_Bturn_to : Fun K "turn_to" "Board.turn_to" s_Bturn_to A.f_Bturn_to A.fd_Bturn_to
  mt_turn_to : Meth K A.C "turn_to" A.f_Bturn_to
  bm_turn_to : Binds K A.fd_Bturn_to ["self", "at", "place"] []
  F_Bload : Fun K "load" "Board.load" s_Bload A.f_Bload A.fd_Bload
  mt_load : Meth K A.C "load" A.f_Bload
  bm_load : Binds K A.fd_Bload ["self", "at", "many"] []
  F_written : Fun K "written" "written" s_written A.f_written A.fd_written
  m_written : mg "written" = some (.ref A.f_written)
  k_written : PySem.W.keepIn K (.ref A.f_written) = true
  b_written : Binds K A.fd_written ["board"] []
  F_site_line : Fun K "site_line" "site_line" s_site_line A.f_site_line A.fd_site_line
  m_site_line : mg "site_line" = some (.ref A.f_site_line)
  k_site_line : PySem.W.keepIn K (.ref A.f_site_line) = true
  b_site_line : Binds K A.fd_site_line ["board", "at"] []
  F_way_word : Fun K "way_word" "way_word" s_way_word A.f_way_word A.fd_way_word
  m_way_word : mg "way_word" = some (.ref A.f_way_word)
  k_way_word : PySem.W.keepIn K (.ref A.f_way_word) = true
  b_way_word : Binds K A.fd_way_word ["way"] []
  F_read : Fun K "read" "read" s_read A.f_read A.fd_read
  m_read : mg "read" = some (.ref A.f_read)
  k_read : PySem.W.keepIn K (.ref A.f_read) = true
  b_read : Binds K A.fd_read ["text"] []
  F_told : Fun K "told" "told" s_told A.f_told A.fd_told
  m_told : mg "told" = some (.ref A.f_told)
  k_told : PySem.W.keepIn K (.ref A.f_told) = true
  b_told : Binds K A.fd_told ["rows", "numbers"] []
  F_read_head : Fun K "read_head" "read_head" s_read_head A.f_read_head A.fd_read_head
  m_read_head : mg "read_head" = some (.ref A.f_read_head)
  k_read_head : PySem.W.keepIn K (.ref A.f_read_head) = true
  b_read_head : Binds K A.fd_read_head ["words"] []
  F_read_numbers : Fun K "read_numbers" "read_numbers" s_read_numbers A.f_read_numbers A.fd_read_numbers
  m_read_numbers : mg "read_numbers" = some (.ref A.f_read_numbers)
  k_read_numbers : PySem.W.keepIn K (.ref A.f_read_numbers) = true
  b_read_numbers : Binds K A.fd_read_numbers ["words"] []
  F_read_row : Fun K "read_row" "read_row" s_read_row A.f_read_row A.fd_read_row
  m_read_row : mg "read_row" = some (.ref A.f_read_row)
  k_read_row : PySem.W.keepIn K (.ref A.f_read_row) = true
  b_read_row : Binds K A.fd_read_row ["words"] []
  F_read_way : Fun K "read_way" "read_way" s_read_way A.f_read_way A.fd_read_way
  m_read_way : mg "read_way" = some (.ref A.f_read_way)
  k_read_way : PySem.W.keepIn K (.ref A.f_read_way) = true
  b_read_way : Binds K A.fd_read_way ["word"] []
  F_read_number : Fun K "read_number" "read_number" s_read_number A.f_read_number A.fd_read_number
  m_read_number : mg "read_number" = some (.ref A.f_read_number)
  k_read_number : PySem.W.keepIn K (.ref A.f_read_number) = true
  b_read_number : Binds K A.fd_read_number ["word"] []
  F_drawn : Fun K "_law_drawn" "_law_drawn" s_drawn A.f_drawn A.fd_drawn
  m__law_drawn : mg "_law_drawn" = some (.ref A.f_drawn)
  k__law_drawn : PySem.W.keepIn K (.ref A.f_drawn) = true
  b__law_drawn : Binds K A.fd_drawn ["script", "k", "many"] []
  F_other : Fun K "_law_other" "_law_other" s_other A.f_other A.fd_other
  m__law_other : mg "_law_other" = some (.ref A.f_other)
  k__law_other : PySem.W.keepIn K (.ref A.f_other) = true
  b__law_other : Binds K A.fd_other ["gone", "many"] []
  F_rows_by : Fun K "_law_rows_by" "_law_rows_by" s_rows_by A.f_rows_by A.fd_rows_by
  m__law_rows_by : mg "_law_rows_by" = some (.ref A.f_rows_by)
  k__law_rows_by : PySem.W.keepIn K (.ref A.f_rows_by) = true
  b__law_rows_by : Binds K A.fd_rows_by ["script"] []
  F_turns_by : Fun K "_law_turns_by" "_law_turns_by" s_turns_by A.f_turns_by A.fd_turns_by
  m__law_turns_by : mg "_law_turns_by" = some (.ref A.f_turns_by)
  k__law_turns_by : PySem.W.keepIn K (.ref A.f_turns_by) = true
  b__law_turns_by : Binds K A.fd_turns_by ["script", "rows"] []
  F_loads_by : Fun K "_law_loads_by" "_law_loads_by" s_loads_by A.f_loads_by A.fd_loads_by
  m__law_loads_by : mg "_law_loads_by" = some (.ref A.f_loads_by)
  k__law_loads_by : PySem.W.keepIn K (.ref A.f_loads_by) = true
  b__law_loads_by : Binds K A.fd_loads_by ["script", "rows"] []
  F_board : Fun K "_law_board" "_law_board" s_board A.f_board A.fd_board
  m__law_board : mg "_law_board" = some (.ref A.f_board)
  k__law_board : PySem.W.keepIn K (.ref A.f_board) = true
  b__law_board : Binds K A.fd_board ["rows", "turns", "loads"] []
  F_number : Fun K "_law_number" "_law_number" s_number A.f_number A.fd_number
  m__law_number : mg "_law_number" = some (.ref A.f_number)
  k__law_number : PySem.W.keepIn K (.ref A.f_number) = true
  b__law_number : Binds K A.fd_number ["word"] []
  F_exit : Fun K "_law_exit" "_law_exit" s_exit A.f_exit A.fd_exit
  m__law_exit : mg "_law_exit" = some (.ref A.f_exit)
  k__law_exit : PySem.W.keepIn K (.ref A.f_exit) = true
  b__law_exit : Binds K A.fd_exit ["word"] []
  F_writes : Fun K "_law_writes" "_law_writes" s_writes A.f_writes A.fd_writes
  m__law_writes : mg "_law_writes" = some (.ref A.f_writes)
  k__law_writes : PySem.W.keepIn K (.ref A.f_writes) = true
  b__law_writes : Binds K A.fd_writes ["signs"] []
  F_odd : Fun K "_law_odd" "_law_odd" s_odd A.f_odd A.fd_odd
  m__law_odd : mg "_law_odd" = some (.ref A.f_odd)
  k__law_odd : PySem.W.keepIn K (.ref A.f_odd) = true
  b__law_odd : Binds K A.fd_odd ["script"] []
  F_changed : Fun K "_law_changed" "_law_changed" s_changed A.f_changed A.fd_changed
  m__law_changed : mg "_law_changed" = some (.ref A.f_changed)
  k__law_changed : PySem.W.keepIn K (.ref A.f_changed) = true
  b__law_changed : Binds K A.fd_changed ["script", "shown"] []
  F_law : Fun K "law" "law" s_law A.f_law A.fd_law
  m_law : mg "law" = some (.ref A.f_law)
  k_law : PySem.W.keepIn K (.ref A.f_law) = true
  b_law : Binds K A.fd_law ["script"] []
  m_Board : mg "Board" = some (.ref A.C)
  cl_Board : Cls K A.C
  na_rows : NoAttr K A.C "rows"
  na_turns : NoAttr K A.C "turns"
  na_loads : NoAttr K A.C "loads"
  na_steps : NoAttr K A.C "steps"
  na_taken : NoAttr K A.C "taken"
  ib1 : PySem.W.findIn K (.ref A.C) "__class__" = some (some (.builtin "object.__class__"))
  ib2 : PySem.W.specialIn K (.builtin "object.__class__") "__get__" = some (some (.builtin "getset_descriptor.__get__"))
  ib3 : PySem.W.takesIn K (.builtin "object.__class__") = some true
  ib4 : PySem.W.mroIn K A.C (.type "object") = some true
  n_len : mg "len" = none
  n_range : mg "range" = none
  n_isinstance : mg "isinstance" = none
  n_int : mg "int" = none
  n_list : mg "list" = none
  n_reversed : mg "reversed" = none
  n_sum : mg "sum" = none
  n_all : mg "all" = none
  n_enumerate : mg "enumerate" = none
  n_max : mg "max" = none
  n_min : mg "min" = none
  n_str : mg "str" = none
  n_ValueError : mg "ValueError" = none
  g_PIT : mg "PIT" = some (.int (-1) A.t_PIT)
  g_MOST_SITES : mg "MOST_SITES" = some (.int (12) A.t_MOST_SITES)
  g_MOST_EXITS : mg "MOST_EXITS" = some (.int (8) A.t_MOST_EXITS)
  g_MOST_MARBLES : mg "MOST_MARBLES" = some (.int (400) A.t_MOST_MARBLES)
  g_HEAD : mg "HEAD" = some (.str "board" A.t_HEAD)
  g_MARK : mg "MARK" = some (.str ">" A.t_MARK)
  g_PIT_WORD : mg "PIT_WORD" = some (.str "pit" A.t_PIT_WORD)
  g_FIGURES : mg "FIGURES" = some (.str "0123456789" A.t_FIGURES)
  g_MOST_FIGURES : mg "MOST_FIGURES" = some (.int (20) A.t_MOST_FIGURES)
  m_NoSite : mg "NoSite" = some (.ref A.c_NoSite)
  x_NoSite : XCls K A.c_NoSite
  kb_NoSite : PySem.W.kitOne K (.ref A.c_NoSite) (.type "BaseException") = some true
  m_NoExit : mg "NoExit" = some (.ref A.c_NoExit)
  x_NoExit : XCls K A.c_NoExit
  kb_NoExit : PySem.W.kitOne K (.ref A.c_NoExit) (.type "BaseException") = some true
  m_NoPlace : mg "NoPlace" = some (.ref A.c_NoPlace)
  x_NoPlace : XCls K A.c_NoPlace
  kb_NoPlace : PySem.W.kitOne K (.ref A.c_NoPlace) (.type "BaseException") = some true
  m_TooMany : mg "TooMany" = some (.ref A.c_TooMany)
  x_TooMany : XCls K A.c_TooMany
  kb_TooMany : PySem.W.kitOne K (.ref A.c_TooMany) (.type "BaseException") = some true
  m_NoBoard : mg "NoBoard" = some (.ref A.c_NoBoard)
  x_NoBoard : XCls K A.c_NoBoard
  kb_NoBoard : PySem.W.kitOne K (.ref A.c_NoBoard) (.type "BaseException") = some true
  m_BoardError : mg "BoardError" = some (.ref A.c_BoardError)
  x_BoardError : XCls K A.c_BoardError
  kb_BoardError : PySem.W.kitOne K (.ref A.c_BoardError) (.type "BaseException") = some true
  p_NoSite_BoardError : PySem.W.kitOne K (.ref A.c_NoSite) (.ref A.c_BoardError) = some true
  ne_NoSite_BoardError : A.c_NoSite ≠ A.c_BoardError
  p_NoExit_BoardError : PySem.W.kitOne K (.ref A.c_NoExit) (.ref A.c_BoardError) = some true
  ne_NoExit_BoardError : A.c_NoExit ≠ A.c_BoardError
  p_NoPlace_BoardError : PySem.W.kitOne K (.ref A.c_NoPlace) (.ref A.c_BoardError) = some true
  ne_NoPlace_BoardError : A.c_NoPlace ≠ A.c_BoardError
  p_TooMany_BoardError : PySem.W.kitOne K (.ref A.c_TooMany) (.ref A.c_BoardError) = some true
  ne_TooMany_BoardError : A.c_TooMany ≠ A.c_BoardError
  p_NoBoard_BoardError : PySem.W.kitOne K (.ref A.c_NoBoard) (.ref A.c_BoardError) = some true
  ne_NoBoard_BoardError : A.c_NoBoard ≠ A.c_BoardError
  p_NoBoard_NoSite : PySem.W.kitOne K (.ref A.c_NoBoard) (.ref A.c_NoSite) = some false
  ne_NoBoard_NoSite : A.c_NoBoard ≠ A.c_NoSite
  p_NoBoard_NoExit : PySem.W.kitOne K (.ref A.c_NoBoard) (.ref A.c_NoExit) = some false
  ne_NoBoard_NoExit : A.c_NoBoard ≠ A.c_NoExit
  p_NoBoard_NoPlace : PySem.W.kitOne K (.ref A.c_NoBoard) (.ref A.c_NoPlace) = some false
  ne_NoBoard_NoPlace : A.c_NoBoard ≠ A.c_NoPlace
  p_NoBoard_TooMany : PySem.W.kitOne K (.ref A.c_NoBoard) (.ref A.c_TooMany) = some false
  ne_NoBoard_TooMany : A.c_NoBoard ≠ A.c_TooMany
  xi_NoBoard : XIs K A.c_NoBoard
  qt_NoBoard_ValueError : PySem.W.kitOne K (.ref A.c_NoBoard) (.type "ValueError") = some true
  q_int_bool : PySem.W.kitOne K (.type "int") (.type "bool") = some false
def spDrawn (K : PySem.W.Frag) : Sp := fun vs H Q _ => ∃ (a : Addr) (ns : List Int) (k many : Int), vs = [.ref a, .int k, .int many] ∧ SqL K H a (ns.map V.int) ∧ 0 < many ∧ -(2 ^ 62) < k ∧ k < 2 ^ 62 ∧ Q (.int (drawn ns k many)) H
def oth (many g : Int) : Int := if g < 0 then g else many - 1 - g
def spOther : Sp := fun vs H Q _ => ∃ (g many : Int), vs = [.int g, .int many] ∧ Q (.int (oth many g)) H
theorem at_ints {ns : List Int} {i : Int} (h0 : 0 ≤ i) (h1 : i < (ns.length : Int)) : atI (ns.map V.int) i = some (V.int (ns.getD i.toNat 0)) := by
  obtain ⟨n, rfl⟩ : ∃ n : Nat, i = (n : Int) := ⟨i.toNat, by omega⟩
  have hl : n < ns.length := by omega
  refine atI_nat ?_
  rw [List.getElem?_map, List.getElem?_eq_getElem hl]
  simp [List.getElem?_eq_getElem hl]
theorem at_list {α : Type} {xs : List α} {i : Int} {n : Nat} {x : α} (h0 : i = (n : Int)) (h1 : xs[n]? = some x) : atI xs i = some x := by rw [h0]; exact atI_nat h1
theorem ixN_in {n : Nat} {i : Int} (h0 : 0 ≤ i) (h1 : i < (n : Int)) : ixN n i = some i.toNat := by
  unfold ixN
  rw [if_pos h0, if_pos h1]
theorem kb10 {i : Nat} (h : i < 100) : -(2 ^ 62 : Int) < 10 + 20 * (0 + (i : Int)) ∧ 10 + 20 * (0 + (i : Int)) < 2 ^ 62 := by omega
theorem kb11 {i : Nat} (h : i < 100) : -(2 ^ 62 : Int) < 10 + 20 * (0 + (i : Int)) + 1 ∧ 10 + 20 * (0 + (i : Int)) + 1 < 2 ^ 62 := by omega
theorem kb12 {i : Nat} (h : i < 100) : -(2 ^ 62 : Int) < 10 + 20 * (0 + (i : Int)) + 2 ∧ 10 + 20 * (0 + (i : Int)) + 2 < 2 ^ 62 := by omega
theorem kb13 {i j : Nat} (h : i < 100) (h2 : j < 100) : -(2 ^ 62 : Int) < 10 + 20 * (0 + (i : Int)) + 3 + (0 + (j : Int)) ∧ 10 + 20 * (0 + (i : Int)) + 3 + (0 + (j : Int)) < 2 ^ 62 := by omega
theorem kbc {c : Int} {i : Nat} (h : i < 100) (hc : 0 ≤ c ∧ c ≤ 10000) : -(2 ^ 62 : Int) < c + (0 + (i : Int)) ∧ c + (0 + (i : Int)) < 2 ^ 62 := by omega
theorem ps1 {m : Int} (h : 1 ≤ m) : 0 < m := Int.lt_of_lt_of_le Int.zero_lt_one h
theorem psi {i : Nat} : (0 : Int) < 0 + (i : Int) + 1 := by omega
theorem psl {n : Nat} : (0 : Int) < (n : Int) + 1 := by omega
theorem small12 {n : Nat} (h : n ≤ 100) : n ≤ sizeLine := Nat.le_of_lt (small1000 (by omega))
def newB (rows : List (List Int)) : Brd := ⟨rows, List.replicate rows.length 0, List.replicate rows.length 0, List.replicate rows.length 0, 0⟩
def spInit (C : Addr) : Sp := fun vs H Q _ => ∃ (p dx aH : Addr) (asH : List Addr) (rows : List (List Int)), vs = [.ref p, .ref aH] ∧ H p = some (.ins C dx []) ∧ Mat H aH asH rows ∧ Wf rows ∧
  ∀ (aR : Addr) (as : List Addr) (aT aL aS : Addr) (H' : Hp), BoardAt C H' p dx aR as aT aL aS (newB rows) → (∀ b o, H b = some o → b ≠ p → H' b = some o) → (∀ b ∈ aT :: aL :: aS :: aR :: as, H b = none) → Q .non H'
theorem rowok_new {n : Nat} {ns : List Int} {sz : Int} {top many : Int} (h1 : 1 ≤ sz) (h8 : sz ≤ 8) (ht : 1 ≤ top) (htm : top ≤ many + 1) (hn : (n : Int) = many) (c : Int → Int) {e : Int} {i : Nat} (he : -1 ≤ e ∧ e < many) :
    RowOk n (((List.range sz.toNat).map fun (j : Nat) => drawn ns (c j) top - 1).set i e) := by
  refine ⟨by simp; omega, by simp; omega, fun x hx => ?_⟩
  rcases List.mem_or_eq_of_mem_set hx with h | h
  · obtain ⟨j, _, rfl⟩ := List.mem_map.mp h
    have a1 := drawn_nn ns (c j) (many := top) (by omega)
    have a2 := drawn_lt ns (c j) (many := top) (by omega)
    omega
  · rw [h, hn]
    exact he
theorem rowok_ins {n : Nat} {r : List Int} {k : Nat} {e : Int} (h : RowOk n r) (h8 : r.length < 8) (he : -1 ≤ e ∧ e < (n : Int)) : RowOk n (r.take k ++ e :: r.drop k) := by
  obtain ⟨h1, h2, h3⟩ := h
  have hl : (r.take k ++ e :: r.drop k).length = r.length + 1 := by
    simp only [List.length_append, List.length_take, List.length_cons, List.length_drop]
    omega
  refine ⟨by omega, by omega, fun x hx => ?_⟩
  rcases List.mem_append.mp hx with z | z
  · exact h3 x (List.mem_of_mem_take z)
  · rcases List.mem_cons.mp z with z | z
    · rw [z]; exact he
    · exact h3 x (List.mem_of_mem_drop z)
theorem rowok_oth {n : Nat} {r : List Int} {many : Int} (h : RowOk n r) (hn : (n : Int) = many) : RowOk n (r.map (oth many)) := by
  obtain ⟨h1, h2, h3⟩ := h
  refine ⟨by simpa using h1, by simpa using h2, fun x hx => ?_⟩
  obtain ⟨y, hy, rfl⟩ := List.mem_map.mp hx
  have := h3 y hy
  unfold oth
  split <;> omega
theorem map_set_int {r : List Int} {i : Nat} {e : Int} : (r.map V.int).set i (.int e) = (r.set i e).map V.int := by rw [List.map_set]
theorem map_ins_int {r : List Int} {k : Nat} {e : Int} : (r.map V.int).take k ++ V.int e :: (r.map V.int).drop k = (r.take k ++ e :: r.drop k).map V.int := by
  rw [List.map_append, List.map_cons, List.map_take, List.map_drop]
theorem mat_of {H H' : Hp} {R : Addr} {as : List Addr} {rows : List (List Int)} (hlen : as.length = rows.length) (nd : as.Nodup) (sm : Same H H') (hrow : ∀ (i : Nat) a l, as[i]? = some a → (rows.map fun r => r.map V.int)[i]? = some l → H' a = some (.lst l)) (hR : H' R = none) : Mat (upd H' R (.lst (as.map V.ref))) R as rows := by
  have look : ∀ (i : Nat) a r, as[i]? = some a → rows[i]? = some r → H' a = some (.lst (r.map V.int)) := fun i a r e1 e2 => hrow i a _ e1 (by rw [List.getElem?_map, e2]; rfl)
  have nR : R ∉ as := fun z => by
    obtain ⟨i, hi, e⟩ := List.getElem_of_mem z
    have hi2 : i < rows.length := by omega
    have := look i R rows[i] (by rw [List.getElem?_eq_getElem hi, e]) (List.getElem?_eq_getElem hi2)
    rw [hR] at this
    cases this
  refine ⟨upd_same, hlen, fun i a r e1 e2 => ?_, List.nodup_cons.mpr ⟨nR, nd⟩⟩
  rw [upd_ne (fun z => nR (by rw [← z]; exact List.mem_of_getElem? e1))]
  exact look i a r e1 e2
def spLaw (K : PySem.W.Frag) : Sp := fun vs H Q _ => ∃ (a : Addr) (ns : List Int), vs = [.ref a] ∧ SqL K H a (ns.map V.int) ∧ ns.length ≤ 63 ∧ ∀ H', Q (.bl true) H'
theorem made_same {H H' : Hp} {p dx C : Addr} (hp : H p = none) (hdx : H dx = none) (k : ∀ b o, (upd (upd H dx (.own p)) p (.ins C dx [])) b = some o → b ≠ p → H' b = some o) : Same H H' := fun b o e =>
  k b o (by rw [upd_ne (ne_of_none e hp), upd_ne (ne_of_none e hdx)]; exact e) (ne_of_none e hp)
theorem made_none {H : Hp} {p dx C b : Addr} (h : (upd (upd H dx (.own p)) p (.ins C dx [])) b = none) : H b = none := by
  by_cases h1 : b = p
  · rw [h1, upd_same] at h; cases h
  · rw [upd_ne h1] at h
    by_cases h2 : b = dx
    · rw [h2, upd_same] at h; cases h
    · rw [upd_ne h2] at h; exact h
theorem log2_small {z : Int} (h1 : -(2 ^ 62) < z) (h2 : z < 2 ^ 62) : z.natAbs.log2 < 1920 := by
  by_cases h0 : z.natAbs = 0
  · rw [h0]; decide
  · have h3 : z.natAbs < 2 ^ 62 := by omega
    have h4 := (Nat.log2_lt h0).mpr h3
    omega
def spSite (C Cn : Addr) : Sp := fun vs H Q E => ∃ (p dx aR : Addr) (as : List Addr) (aT aL aS : Addr) (b : Brd) (z : Int), vs = [.ref p, .int z] ∧ BoardAt C H p dx aR as aT aL aS b ∧ -(2 ^ 62) < z ∧ z < 2 ^ 62 ∧
  (0 ≤ z ∧ z < (b.rows.length : Int) → Q .non H) ∧ (¬ (0 ≤ z ∧ z < (b.rows.length : Int)) → E (.ref Cn) none H)
def spTurn (C Cn Cp : Addr) : Sp := fun vs H Q E => ∃ (p dx aR : Addr) (as : List Addr) (aT aL aS : Addr) (b : Brd) (z y : Int), vs = [.ref p, .int z, .int y] ∧ BoardAt C H p dx aR as aT aL aS b ∧ b.turns.length = b.rows.length ∧ -(2 ^ 62) < z ∧ z < 2 ^ 62 ∧ Sm y ∧ True ∧
  (¬ (0 ≤ z ∧ z < (b.rows.length : Int)) → E (.ref Cn) none H) ∧
  (0 ≤ z ∧ z < (b.rows.length : Int) → ¬ (0 ≤ y ∧ y < ((b.rows.getD z.toNat []).length : Int)) → E (.ref Cp) none H) ∧
  (0 ≤ z ∧ z < (b.rows.length : Int) → 0 ≤ y ∧ y < ((b.rows.getD z.toNat []).length : Int) → Q .non (upd H aT (.lst ((b.turns.set z.toNat y).map V.int))))
def spLoad (C Cn Cm : Addr) : Sp := fun vs H Q E => ∃ (p dx aR : Addr) (as : List Addr) (aT aL aS : Addr) (b : Brd) (z y : Int), vs = [.ref p, .int z, .int y] ∧ BoardAt C H p dx aR as aT aL aS b ∧ b.loads.length = b.rows.length ∧ -(2 ^ 62) < z ∧ z < 2 ^ 62 ∧
  (¬ (0 ≤ z ∧ z < (b.rows.length : Int)) → E (.ref Cn) none H) ∧
  (0 ≤ z ∧ z < (b.rows.length : Int) → 400 < b.loads.sum + y → E (.ref Cm) none H) ∧
  (0 ≤ z ∧ z < (b.rows.length : Int) → b.loads.sum + y ≤ 400 → Q .non (upd H aL (.lst ((b.loads.set z.toNat (b.loads.getD z.toNat 0 + y)).map V.int))))
theorem _root_.Com.BoardAt.setT {C : Addr} {H : Hp} {p dx aR : Addr} {as : List Addr} {aT aL aS : Addr} {b : Brd} (B : BoardAt C H p dx aR as aT aL aS b) (ts : List Int) : BoardAt C (upd H aT (.lst (ts.map V.int))) p dx aR as aT aL aS { b with turns := ts } := by
  have n := B.nd
  simp only [List.nodup_cons, List.mem_cons, not_or] at n
  obtain ⟨⟨n1, n2, n3, n4, n5⟩, ⟨n6, n7, n8, n9⟩, _⟩ := n
  exact ⟨by rw [upd_ne n1]; exact B.ob, B.mat.upd (by simp only [List.mem_cons, not_or]; exact ⟨n8, n9⟩), upd_same, by rw [upd_ne (Ne.symm n6)]; exact B.hL, by rw [upd_ne (Ne.symm n7)]; exact B.hS, B.nd⟩
theorem _root_.Com.BoardAt.setL {C : Addr} {H : Hp} {p dx aR : Addr} {as : List Addr} {aT aL aS : Addr} {b : Brd} (B : BoardAt C H p dx aR as aT aL aS b) (ls : List Int) : BoardAt C (upd H aL (.lst (ls.map V.int))) p dx aR as aT aL aS { b with loads := ls } := by
  have n := B.nd
  simp only [List.nodup_cons, List.mem_cons, not_or] at n
  obtain ⟨⟨n1, n2, n3, n4, n5⟩, ⟨n6, n7, n8, n9⟩, ⟨n10, n11, n12⟩, _⟩ := n
  exact ⟨by rw [upd_ne n2]; exact B.ob, B.mat.upd (by simp only [List.mem_cons, not_or]; exact ⟨n11, n12⟩), by rw [upd_ne n6]; exact B.hT, upd_same, by rw [upd_ne (Ne.symm n10)]; exact B.hS, B.nd⟩
theorem getD_get {α : Type} {l : List α} {i : Nat} {d : α} (h : i < l.length) : l.getD i d = l[i] := by simp [List.getElem?_eq_getElem h]
theorem _root_.Com.Mat.at {H : Hp} {R : Addr} {as : List Addr} {rows : List (List Int)} (M : Mat H R as rows) {z : Int} (h0 : 0 ≤ z) (h1 : z < (rows.length : Int)) : ∃ c, atI (as.map V.ref) z = some (.ref c) ∧ H c = some (.lst ((rows.getD z.toNat []).map V.int)) ∧ as[z.toNat]? = some c := by
  have h : z.toNat < rows.length := by omega
  obtain ⟨c, ec, hc, _⟩ := M.get h
  refine ⟨c, at_list (n := z.toNat) (by omega) (by rw [List.getElem?_map, ec]; rfl), ?_, ec⟩
  rw [getD_get h]
  exact hc
def spTurns (K : PySem.W.Frag) : Sp := fun vs H Q _ => ∃ (a R : Addr) (as : List Addr) (rows : List (List Int)) (ns : List Int), vs = [.ref a, .ref R] ∧ SqL K H a (ns.map V.int) ∧ Mat H R as rows ∧ Wf rows ∧
  ∀ (l : Addr) (ts : List Int), H l = none → TurnsOk rows ts → Q (.ref l) (upd H l (.lst (ts.map V.int)))
def spBoard (K : PySem.W.Frag) (C : Addr) : Sp := fun vs H Q _ => ∃ (R tA lA : Addr) (as : List Addr) (rows : List (List Int)) (ts ls : List Int), vs = [.ref R, .ref tA, .ref lA] ∧ Mat H R as rows ∧ Wf rows ∧ SqL K H tA (ts.map V.int) ∧ SqL K H lA (ls.map V.int) ∧ TurnsOk rows ts ∧
  ls.length = rows.length ∧ (∀ k, k ≤ rows.length → (ls.take k).sum ≤ 400) ∧ ∀ (p dx aR : Addr) (asB : List Addr) (aT aL aS : Addr) (H' : Hp), BoardAt C H' p dx aR asB aT aL aS ⟨rows, ts, ls, List.replicate rows.length 0, 0⟩ → Same H H' →
    (∀ c ∈ p :: aT :: aL :: aS :: aR :: asB, H c = none) → Q (.ref p) H'
def part (xs : List Int) (n k : Nat) : List Int := xs.take k ++ List.replicate (n - k) 0
theorem part_len {xs : List Int} {n k : Nat} (h : xs.length = n) (hk : k ≤ n) : (part xs n k).length = n := by
  unfold part
  rw [List.length_append, List.length_take, List.length_replicate]
  omega
theorem part_zero (xs : List Int) (n : Nat) : part xs n 0 = List.replicate n 0 := by unfold part; simp
theorem part_all {xs : List Int} {n : Nat} (h : xs.length = n) : part xs n n = xs := by unfold part; rw [← h]; simp
theorem part_get {xs : List Int} {n k : Nat} (h : xs.length = n) (hk : k < n) : (part xs n k).getD k 0 = 0 := by
  unfold part
  have hl : (xs.take k).length = k := by rw [List.length_take]; omega
  have e : (xs.take k ++ List.replicate (n - k) (0 : Int))[k]? = some 0 := by
    rw [List.getElem?_append_right (by omega), hl, Nat.sub_self, List.getElem?_replicate, if_pos (by omega)]
  simp [e]
theorem part_set {xs : List Int} {n k : Nat} (h : xs.length = n) (hk : k < n) : (part xs n k).set k (xs.getD k 0) = part xs n (k + 1) := by
  unfold part
  have hl : (xs.take k).length = k := by rw [List.length_take]; omega
  have hx : xs[k]? = some (xs.getD k 0) := by simp [List.getElem?_eq_getElem (show k < xs.length by omega)]
  rw [List.set_append_right _ _ (by omega), hl, Nat.sub_self, List.take_add_one, hx, show n - k = (n - (k + 1)) + 1 by omega, List.replicate_succ, List.set_cons_zero]
  simp
theorem part_sum {xs : List Int} {n k : Nat} : (part xs n k).sum = (xs.take k).sum := by
  unfold part
  rw [List.sum_append]
  have : (List.replicate (n - k) (0 : Int)).sum = 0 := by
    induction (n - k) with
    | zero => rfl
    | succ m ih => rw [List.replicate_succ, List.sum_cons, ih]; rfl
  omega
theorem take_sum_succ {xs : List Int} {k : Nat} (h : k < xs.length) : (xs.take (k + 1)).sum = (xs.take k).sum + xs.getD k 0 := by
  rw [getD_get h, List.take_add_one, List.sum_append, List.getElem?_eq_getElem h]
  simp
def Down (rows : List (List Int)) : Prop := ∀ i, i < rows.length → ∃ e ∈ rows.getD i [], -1 ≤ e ∧ e < (i : Int)
theorem Down.open {rows : List (List Int)} (h : Down rows) : ∀ i, i < rows.length → rch rows i = true := by
  intro i
  induction i using Nat.strongRecOn with
  | _ i ih =>
    intro hi
    obtain ⟨e, q1, q2, q3⟩ := h i hi
    refine rch_step q1 ?_
    by_cases he : e = -1
    · exact .inl he
    · exact .inr ⟨by omega, ih e.toNat (by omega) (by omega)⟩
theorem open_rev {rows : List (List Int)} {many : Int} (h : Down rows) (hb : ∀ r ∈ rows, ∀ e ∈ r, -1 ≤ e ∧ e < (rows.length : Int)) (hm : (rows.length : Int) = many) : ∀ i, i < (rows.reverse.map fun r => r.map (oth many)).length → rch (rows.reverse.map fun r => r.map (oth many)) i = true := by
  have hl : (rows.reverse.map fun r => r.map (oth many)).length = rows.length := by simp
  have key : ∀ d, d < rows.length → rch (rows.reverse.map fun r => r.map (oth many)) (rows.length - 1 - d) = true := by
    intro d
    induction d using Nat.strongRecOn with
    | _ d ih =>
      intro hd
      obtain ⟨e, q1, q2, q3⟩ := h d hd
      have hg : (rows.reverse.map fun r => r.map (oth many)).getD (rows.length - 1 - d) [] = (rows.getD d []).map (oth many) := by
        rw [List.getD_eq_getElem?_getD, List.getElem?_map, List.getElem?_reverse (by omega), show rows.length - 1 - (rows.length - 1 - d) = d by omega, List.getElem?_eq_getElem hd, getD_get hd]
        rfl
      refine rch_step (e := oth many e) (by rw [hg]; exact List.mem_map.mpr ⟨e, q1, rfl⟩) ?_
      by_cases he : e = -1
      · left; rw [he]; rfl
      · right
        have e1 : oth many e = many - 1 - e := by unfold oth; rw [if_neg (by omega)]
        rw [e1]
        refine ⟨by omega, ?_⟩
        have := ih e.toNat (by omega) (by omega)
        rw [show (many - 1 - e).toNat = rows.length - 1 - e.toNat by omega]
        exact this
  intro i hi
  rw [hl] at hi
  have := key (rows.length - 1 - i) (by omega)
  rw [show rows.length - 1 - (rows.length - 1 - i) = i by omega] at this
  exact this
def spRowsT (K : PySem.W.Frag) : Sp := fun vs H Q _ => ∃ (a : Addr) (ns : List Int), vs = [.ref a] ∧ SqL K H a (ns.map V.int) ∧ ∀ (R : Addr) (as : List Addr) (rows : List (List Int)) (H' : Hp), Wf rows → (∀ i, i < rows.length → rch rows i = true) → Tame rows 30 → Mat H' R as rows → Same H H' → (∀ b ∈ R :: as, H b = none) → Q (.ref R) H'
def Shp (many : Int) (rows : List (List Int)) : Prop := ∃ u, Shape rows u ∧ (sumU u rows.length ≤ 3 ∨ (many ≤ 4 ∧ ∀ i, i < rows.length → u i ≤ 2))
theorem shp_of {many : Int} {rows : List (List Int)} {big : Bool} (h : Shape rows fun _ => if big = true then 0 else 2) (hm : big = false → many ≤ 4) : Shp many rows := by
  cases big with
  | true => exact ⟨_, h, .inl (by show sumU (fun _ => 0) _ ≤ 3; rw [sumU_zero]; decide)⟩
  | false => exact ⟨_, h, .inr ⟨hm rfl, fun i _ => Nat.le_refl _⟩⟩
theorem Shp.down {many : Int} {rows : List (List Int)} (h : Shp many rows) (W : Wf rows) : Down rows := by
  obtain ⟨u, sh, _⟩ := h
  exact sh.step fun r hr e he => ((W.2.2 r hr).2.2 e he).1
theorem Shp.tame {many : Int} {rows : List (List Int)} (h : Shp many rows) (W : Wf rows) (hm : (rows.length : Int) = many) : Tame rows 30 := by
  obtain ⟨u, sh, h | ⟨h4, h2⟩⟩ := h
  · exact tame_big W sh h
  · exact tame_small W sh (by omega) h2
theorem tame_oth {many : Int} {rows : List (List Int)} (T : Tame rows 30) (W : Wf rows) (hm : (rows.length : Int) = many) : Tame (rows.reverse.map fun r => r.map (oth many)) 30 := by
  have := tame_rev W T
  unfold revRows at this
  rw [hm] at this
  exact this
def spLoads (K : PySem.W.Frag) : Sp := fun vs H Q _ => ∃ (a R : Addr) (as : List Addr) (rows : List (List Int)) (ns : List Int), vs = [.ref a, .ref R] ∧ SqL K H a (ns.map V.int) ∧ Mat H R as rows ∧ Wf rows ∧
  ∀ (l : Addr) (ls : List Int), H l = none → ls.length = rows.length → (∀ i, 0 ≤ ls.getD i 0) → ls.sum ≤ 20 → Q (.ref l) (upd H l (.lst (ls.map V.int)))
theorem take_sum_le {ls : List Int} (h : ∀ i, 0 ≤ ls.getD i 0) : ∀ k, (ls.take k).sum ≤ ls.sum := by
  induction ls with
  | nil => intro k; simp
  | cons x r ih =>
    intro k
    have h0 : 0 ≤ x := h 0
    have hr : ∀ i, 0 ≤ r.getD i 0 := fun i => h (i + 1)
    cases k with
    | zero =>
      have := ih hr 0
      simp only [List.take_zero, List.sum_nil, List.sum_cons] at this ⊢
      omega
    | succ k =>
      have := ih hr k
      rw [List.take_succ_cons, List.sum_cons, List.sum_cons]
      omega
theorem rep_nn (n : Nat) : ∀ i, (0 : Int) ≤ (List.replicate n (0 : Int)).getD i 0 := fun i => by
  rw [List.getD_eq_getElem?_getD, List.getElem?_replicate]
  split <;> simp
theorem rep_sum0 (n : Nat) : (List.replicate n (0 : Int)).sum = 0 := by
  induction n with
  | zero => rfl
  | succ m ih => rw [List.replicate_succ, List.sum_cons, ih]; rfl
theorem set_nn {ls : List Int} {i : Nat} {v : Int} (h : ∀ i, 0 ≤ ls.getD i 0) (hv : 0 ≤ v) : ∀ j, 0 ≤ (ls.set i v).getD j 0 := fun j => by
  by_cases e : i = j
  · subst e
    by_cases hl : i < ls.length
    · rw [gD_set_self hl]; exact hv
    · rw [List.set_eq_of_length_le (by omega)]; exact h i
  · rw [gD_set_ne e]; exact h j
theorem putF_taken (aR aT aL aS : Addr) (z y : Int) : putF "taken" (.int y) (bflds aR aT aL aS z) = bflds aR aT aL aS y := by
  have n (f g : Str) (h : f ≠ g) (v u : V) (r : List (Str × V)) : putF g v ((f, u) :: r) = (f, u) :: putF g v r := by
    show (if f = g then (f, v) :: r else (f, u) :: putF g v r) = _
    rw [if_neg h]
  unfold bflds
  rw [n _ _ (by decide +kernel), n _ _ (by decide +kernel), n _ _ (by decide +kernel), n _ _ (by decide +kernel)]
  rfl
theorem _root_.Com.BoardAt.setS {C : Addr} {H : Hp} {p dx aR : Addr} {as : List Addr} {aT aL aS : Addr} {b : Brd} (B : BoardAt C H p dx aR as aT aL aS b) (ls : List Int) : BoardAt C (upd H aS (.lst (ls.map V.int))) p dx aR as aT aL aS { b with steps := ls } := by
  have n := B.nd
  simp only [List.nodup_cons, List.mem_cons, not_or] at n
  obtain ⟨⟨n1, n2, n3, n4, n5⟩, ⟨n6, n7, n8, n9⟩, ⟨n10, n11, n12⟩, ⟨n13, n14⟩, _⟩ := n
  exact ⟨by rw [upd_ne n3]; exact B.ob, B.mat.upd (by simp only [List.mem_cons, not_or]; exact ⟨n13, n14⟩), by rw [upd_ne n7]; exact B.hT, by rw [upd_ne n10]; exact B.hL, upd_same, B.nd⟩
theorem _root_.Com.BoardAt.setP {C : Addr} {H : Hp} {p dx aR : Addr} {as : List Addr} {aT aL aS : Addr} {b : Brd} (B : BoardAt C H p dx aR as aT aL aS b) (y : Int) : BoardAt C (upd H p (.ins C dx (bflds aR aT aL aS y))) p dx aR as aT aL aS { b with taken := y } := by
  have n := B.nd
  simp only [List.nodup_cons, List.mem_cons, not_or] at n
  obtain ⟨⟨n1, n2, n3, n4, n5⟩, _⟩ := n
  exact ⟨upd_same, B.mat.upd (by simp only [List.mem_cons, not_or]; exact ⟨n4, n5⟩), by rw [upd_ne (Ne.symm n1)]; exact B.hT, by rw [upd_ne (Ne.symm n2)]; exact B.hL, by rw [upd_ne (Ne.symm n3)]; exact B.hS, B.nd⟩
theorem kit_self {K : PySem.W.Frag} {c : Addr} : PySem.W.kitOne K (.ref c) (.ref c) = some true := by
  unfold PySem.W.kitOne
  simp
theorem mat_in {H : Hp} {R : Addr} {as : List Addr} {rows : List (List Int)} (M : Mat H R as rows) : ∀ x ∈ R :: as, ∃ o, H x = some o := fun c hc => by
  rcases List.mem_cons.mp hc with y | y
  · rw [y]; exact ⟨_, M.hd⟩
  · obtain ⟨i, hi, ei⟩ := List.getElem_of_mem y
    obtain ⟨c', e1, e2, _⟩ := M.get (i := i) (by rw [← M.len]; exact hi)
    rw [List.getElem?_eq_getElem hi, ei] at e1
    cases e1
    exact ⟨_, e2⟩
theorem mat_no {H : Hp} {R : Addr} {as : List Addr} {rows : List (List Int)} (M : Mat H R as rows) {t : Addr} (hn : H t = none) : t ∉ R :: as := fun z => by
  obtain ⟨o, e⟩ := mat_in M t z
  rw [hn] at e
  cases e
section
variable {C : Addr} {H0 H H' : Hp} {p dx aR : Addr} {asB : List Addr} {aT aL aS R : Addr} {as : List Addr} {tA lA cA : Addr} {b b' b2 : Brd}
end
section
variable {C : Addr} {H : Hp} {p dx aR : Addr} {as : List Addr} {aT aL aS : Addr} {b : Brd}
end
def spWay : Sp := fun vs H Q _ => ∃ e : Int, vs = [.int e] ∧ Sm e ∧ Q (.str (wordS e)) H
def spSiteL (C : Addr) : Sp := fun vs H Q _ => ∃ (p dx aR : Addr) (as : List Addr) (aT aL aS : Addr) (b : Brd) (i : Nat), vs = [.ref p, .int (i : Int)] ∧ BoardAt C H p dx aR as aT aL aS b ∧ BSm b ∧ i < b.rows.length ∧ ∀ H', Same H H' → Q (.str (siteS b i)) H'
def spWrit (C : Addr) : Sp := fun vs H Q _ => ∃ (p dx aR : Addr) (as : List Addr) (aT aL aS : Addr) (b : Brd), vs = [.ref p] ∧ BoardAt C H p dx aR as aT aL aS b ∧ BSm b ∧ ∀ H', Same H H' → Q (.str (textS b)) H'
def Small (rows : List (List Int)) : Prop := ∀ r ∈ rows, ∀ e ∈ r, Sm e
def spCheckRowX (K : PySem.W.Frag) (Ce : Addr) : Sp := fun vs H Q E => ∃ (a : Addr) (r : List Int) (n : Nat), vs = [.ref a, .int (n : Int)] ∧ SqL K H a (r.map V.int) ∧ (∀ e ∈ r, Sm e) ∧ (RowOk n r → Q .non H) ∧ (¬ RowOk n r → E (.ref Ce) none H)
def spCheckRowsX (Cs Ce : Addr) : Sp := fun vs H Q E => ∃ (a : Addr) (as : List Addr) (rows : List (List Int)), vs = [.ref a] ∧ Mat H a as rows ∧ Small rows ∧ (Wf rows → Q .non H) ∧ (¬ (1 ≤ rows.length ∧ rows.length ≤ 12) → E (.ref Cs) none H) ∧ (1 ≤ rows.length ∧ rows.length ≤ 12 → ¬ Wf rows → E (.ref Ce) none H)
def spInitX (C Cs Ce : Addr) : Sp := fun vs H Q E => ∃ (p dx aH : Addr) (asH : List Addr) (rows : List (List Int)), vs = [.ref p, .ref aH] ∧ H p = some (.ins C dx []) ∧ Mat H aH asH rows ∧ Small rows ∧
  (Wf rows → ∀ (aR : Addr) (as : List Addr) (aT aL aS : Addr) (H' : Hp), BoardAt C H' p dx aR as aT aL aS (newB rows) → (∀ b o, H b = some o → b ≠ p → H' b = some o) → (∀ b ∈ aT :: aL :: aS :: aR :: as, H b = none) → Q .non H') ∧
  (¬ (1 ≤ rows.length ∧ rows.length ≤ 12) → E (.ref Cs) none H) ∧ (1 ≤ rows.length ∧ rows.length ≤ 12 → ¬ Wf rows → E (.ref Ce) none H)
theorem take_snoc {α : Type} {l : List α} {i : Nat} {x : α} (h : l[i]? = some x) : l.take (i + 1) = l.take i ++ [x] := by rw [List.take_add_one, h]; rfl
theorem tame_of {P : Program} {w : World} {K : PySem.W.Frag} {mg : Str → Option Value} {base : Heap} {k : Nat} {f : Addr} {fd : FuncData} {ps : List Str} {sp sp' : Sp} (F : FnOk P w K mg base (CX1 P w) k f fd ps sp) (h : ∀ vs H Q E, sp' vs H Q E → sp vs H Q E0) : FnOk P w K mg base CX0 k f fd ps sp' :=
  ⟨fun vs H Q E q => F.len _ _ _ _ (h vs H Q E q), fun A outer s H args us vs Q E hr he hb hv hs => codeAny_mono (F.run A outer s H args us vs Q E0 hr he hb hv (h _ _ _ _ hs)) fun r s' z => by
    cases r with
    | ok fl => cases fl <;> exact z
    | error e => obtain ⟨_, _, _, _, _, _, _, _, _, _, _, z⟩ := z; exact False.elim z⟩
theorem init_tame {C Cs Ce : Addr} : ∀ vs H Q E, spInit C vs H Q E → spInitX C Cs Ce vs H Q E0 := by
  rintro vs H Q E ⟨p, dx, aH, asH, rows, rfl, hp, M, W, q⟩
  exact ⟨p, dx, aH, asH, rows, rfl, hp, M, fun r hr e he => sm_of (by have := (W.2.2 r hr).2.2 e he; omega) (by have := (W.2.2 r hr).2.2 e he; have := W.2.1; omega), fun _ => q, fun z => absurd ⟨W.1, W.2.1⟩ z, fun _ z => absurd W z⟩
def spRdNx (Cb : Addr) : Sp := fun vs H Q E => ∃ z : Str, vs = [.str z] ∧ Asc 20000 z ∧ (IsNum z → ∀ H', Same H H' → Q (.int (numV z)) H') ∧ (¬ IsNum z → ∀ H', Same H H' → E (.ref Cb) none H')
def spRdWx (Cb : Addr) : Sp := fun vs H Q E => ∃ z : Str, vs = [.str z] ∧ Asc 20000 z ∧ (-1 ≤ wayV z → ∀ H', Same H H' → Q (.int (wayV z)) H') ∧ (¬ -1 ≤ wayV z → ∀ H', Same H H' → E (.ref Cb) none H')
def spRdRx (K : PySem.W.Frag) (Cb : Addr) : Sp := fun vs H Q E => ∃ (a : Addr) (ws : List Str), vs = [.ref a] ∧ SqL K H a (ws.map V.str) ∧ (∀ w ∈ ws, Asc 20000 w) ∧ ws.length ≤ 20001 ∧
  ((∀ w ∈ ws.drop 4, -1 ≤ wayV w) → ∀ D H', Same H H' → H D = none → H' D = some (.lst (((ws.drop 4).map wayV).map V.int)) → Q (.ref D) H') ∧ (¬ (∀ w ∈ ws.drop 4, -1 ≤ wayV w) → ∀ H', Same H H' → E (.ref Cb) none H')
def NumsOk (ws : List Str) : Prop := ws[3]? = some (Str.ofString ">") ∧ ∀ w ∈ ws.take 3, 0 ≤ numV w
noncomputable def nums3 (ws : List Str) : List Int := [numV (ws.getD 0 Str.empty), numV (ws.getD 1 Str.empty), numV (ws.getD 2 Str.empty)]
theorem nums3_is : ∀ {ws : List Str}, 4 ≤ ws.length → (ws.take 3).map numV = nums3 ws
  | a :: b :: c :: d :: r, _ => rfl
def spRdSx (K : PySem.W.Frag) (Cb : Addr) : Sp := fun vs H Q E => ∃ (a : Addr) (ws : List Str), vs = [.ref a] ∧ SqL K H a (ws.map V.str) ∧ (∀ w ∈ ws, Asc 20000 w) ∧ ws.length ≤ 20001 ∧
  (NumsOk ws → ∀ D H', Same H H' → H D = none → H' D = some (.lst ((nums3 ws).map V.int)) → Q (.ref D) H') ∧ (¬ NumsOk ws → ∀ H', Same H H' → E (.ref Cb) none H')
def spRdHx (K : PySem.W.Frag) (Cb : Addr) : Sp := fun vs H Q E => ∃ (a : Addr) (ws : List Str), vs = [.ref a] ∧ SqL K H a (ws.map V.str) ∧ (∀ w ∈ ws, Asc 20000 w) ∧
  (HOk1 ws → ∀ H', Same H H' → Q (.int (numV (ws.getD 1 Str.empty))) H') ∧ (¬ HOk1 ws → ∀ H', Same H H' → E (.ref Cb) none H')
theorem cutS {ws : List Str} {lo hi : Option Int} : cutV (ws.map V.str) lo hi = ((ws.drop (HT.sIx ws.length 0 lo)).take (HT.sIx ws.length ws.length hi - HT.sIx ws.length 0 lo)).map V.str := by
  unfold cutV
  rw [List.length_map, List.map_take, List.map_drop]
theorem cutS_from {ws : List Str} (k : Nat) : cutV (ws.map V.str) (some (k : Int)) none = (ws.drop k).map V.str := by
  rw [cutS, HT.sIx_none, HT.sIx_nat]
  congr 1
  by_cases h : k ≤ ws.length
  · rw [Nat.min_eq_left h]
    exact List.take_of_length_le (by simp)
  · rw [Nat.min_eq_right (by omega), List.drop_length, List.drop_of_length_le (by omega)]
    exact List.take_nil
theorem cutS_to {ws : List Str} (k : Nat) : cutV (ws.map V.str) none (some (k : Int)) = (ws.take k).map V.str := by
  rw [cutS, HT.sIx_none, HT.sIx_nat, List.drop_zero, Nat.sub_zero]
  congr 1
  by_cases h : k ≤ ws.length
  · rw [Nat.min_eq_left h]
  · rw [Nat.min_eq_right (by omega), List.take_length, List.take_of_length_le (by omega)]
theorem cutS_mid {ws : List Str} : cutV (ws.map V.str) (some ((3 : Nat) : Int)) (some ((4 : Nat) : Int)) = (ws[3]?.toList).map V.str := by
  rw [cutS, HT.sIx_nat, HT.sIx_nat]
  congr 1
  match ws with
  | [] => rfl
  | [_] => rfl
  | [_, _] => rfl
  | [_, _, _] => rfl
  | a :: b :: c :: d :: r =>
    have e1 : min 3 (a :: b :: c :: d :: r).length = 3 := by simp
    have e2 : min 4 (a :: b :: c :: d :: r).length = 4 := by simp
    rw [e1, e2]
    rfl
def numsB (b : Brd) : List (List Int) := (List.range b.rows.length).map fun i => [b.turns.getD i 0, b.loads.getD i 0, b.steps.getD i 0]
structure Pre (b : Brd) : Prop where
  t : b.turns.length = b.rows.length
  l : b.loads.length = b.rows.length
  s : b.steps.length = b.rows.length
  nt : ∀ i, Nu (b.turns.getD i 0)
  nl : ∀ i, Nu (b.loads.getD i 0)
  r : ∀ r ∈ b.rows, ∀ e ∈ r, Sm e
  k : b.taken = 0
def Fits (b : Brd) : Prop := Wf b.rows ∧ (∀ i, i < b.rows.length → b.turns.getD i 0 < ((b.rows.getD i []).length : Int)) ∧ b.loads.sum ≤ 400
def Four (A : Adr) (c : Addr) : Prop := c = A.c_NoSite ∨ c = A.c_NoExit ∨ c = A.c_NoPlace ∨ c = A.c_TooMany
def spTldX (A : Adr) : Sp := fun vs H Q E => ∃ (R N : Addr) (as ns : List Addr) (b : Brd), vs = [.ref R, .ref N] ∧ Mat H R as b.rows ∧ Mat H N ns (numsB b) ∧ Pre b ∧
  (Fits b → ∀ (p dx aR : Addr) (asB : List Addr) (aT aL aS : Addr) (H' : Hp), BoardAt A.C H' p dx aR asB aT aL aS b → Same H H' → (∀ c ∈ p :: aT :: aL :: aS :: aR :: asB, H c = none) → Q (.ref p) H') ∧
  (¬ Fits b → ∀ c H', Four A c → Same H H' → E (.ref c) none H')
def CtxH (c : Option Addr) (H : Hp) : Prop := c = none ∨ ∃ r o u ws D, c = some r ∧ H r = some (.frz o u) ∧ o.cls = .ref D ∧ o.data = .fields ws ∧ ws[2]? = some .none
def spReadX (A : Adr) : Sp := fun vs H Q E => ∃ z : Str, vs = [.str z] ∧ Asc 20000 z ∧
  (Wr z → ∀ (p dx aR : Addr) (asB : List Addr) (aT aL aS : Addr) (H' : Hp), BoardAt A.C H' p dx aR asB aT aL aS (brdT z) → Same H H' → (∀ c ∈ p :: aT :: aL :: aS :: aR :: asB, H c = none) → Q (.ref p) H') ∧
  (¬ Wr z → ∀ c H', CtxH c H' → E (.ref A.c_NoBoard) c H')
theorem nums_tail (z : Str) : numsB { brdT z with taken := 0 } = (lns z).tail.map fun ln => nums3 (spl ln) := by
  refine List.ext_getElem? fun i => ?_
  have el : (brdT z).rows.length = (lns z).tail.length := by show (rowsT (lns z).tail).length = _; unfold rowsT; simp
  unfold numsB
  rw [List.getElem?_map, List.getElem?_map]
  by_cases hi : i < (lns z).tail.length
  · rw [List.getElem?_range (show i < (brdT z).rows.length by rw [el]; exact hi), List.getElem?_eq_getElem hi]
    have eg : (lns z).tail.getD i Str.empty = (lns z).tail[i] := by rw [List.getD_eq_getElem?_getD, List.getElem?_eq_getElem hi]; rfl
    have t0 : ∀ k, (colT k (lns z).tail).getD i 0 = numV ((spl (lns z).tail[i]).getD k Str.empty) := fun k => by unfold colT; rw [getD_map _ Str.empty 0 hi, eg]
    show some [(colT 0 (lns z).tail).getD i 0, (colT 1 (lns z).tail).getD i 0, (colT 2 (lns z).tail).getD i 0] = _
    rw [t0, t0, t0]
    rfl
  · rw [List.getElem?_eq_none (by rw [List.length_range]; show (brdT z).rows.length ≤ i; omega), List.getElem?_eq_none (by omega)]
    rfl
theorem pre_of {z : Str} (h : Rdb z) : Pre { brdT z with taken := 0 } := by
  have el : (brdT z).rows.length = (lns z).tail.length := by show (rowsT (lns z).tail).length = _; unfold rowsT; simp
  have ec : ∀ k, (colT k (lns z).tail).length = (brdT z).rows.length := fun k => by rw [el]; unfold colT; simp
  obtain ⟨n0, n1, n2, n3, nr⟩ := h.nu
  refine ⟨ec 0, ec 1, ec 2, n1, n2, fun r hr e he => ?_, rfl⟩
  rcases nr r hr e he with q | q
  · rw [q]; exact sm_of (by decide) (by decide)
  · exact q.sm
theorem for_wk {J : It} {xs : List V} {g : TG} {tb : TS} {D : Ends} {σ : St} {H : Hp} (W : Wk J xs H) (Pv : Nat → St → Prop) (h0 : Pv 0 σ)
    (hs : ∀ i x σ, xs[i]? = some x → Pv i σ → g x σ H fun σ2 H2 => tb { D with nx := fun σ' H' => H' = H ∧ Pv (i + 1) σ', ct := fun σ' H' => H' = H ∧ Pv (i + 1) σ', bk := D.nx } σ2 H2) (hd : ∀ σ, Pv xs.length σ → D.nx σ H) :
    ∃ W : Nat → Nat → St → Hp → Prop, (∃ m, W 0 m σ H) ∧ ∀ i m σ H, W i m σ H →
      (J.stop i H ∧ D.nx σ H) ∨ (J.go i H ∧ ∃ N : St → Hp → Prop, (∀ σ' H', N σ' H' → ∃ m', m' < m ∧ W (i + 1) m' σ' H') ∧ ∀ x H', J.yld i H x H' → g x σ H' fun σ2 H2 => tb { D with nx := N, ct := N, bk := D.nx } σ2 H2) := by
  refine ⟨fun i m σ' H' => m = xs.length - i ∧ i ≤ xs.length ∧ H' = H ∧ Pv i σ', ⟨xs.length, by simp, Nat.zero_le _, rfl, h0⟩, ?_⟩
  rintro i m σ' H' ⟨rfl, hi, rfl, p⟩
  by_cases hlt : i < xs.length
  · refine .inr ⟨W.go i _ (Same.refl _) hlt, fun σ' H2 => H2 = H' ∧ Pv (i + 1) σ', fun σ2 H2 p2 => ⟨xs.length - (i + 1), by omega, rfl, hlt, p2.1, p2.2⟩, fun x H2 y => ?_⟩
    obtain ⟨e, ex⟩ := W.yl i _ x H2 (Same.refl _) hlt y
    subst e
    exact hs i x σ' ex p
  · obtain rfl : i = xs.length := by omega
    exact .inl ⟨W.st _ (Same.refl _), hd σ' p⟩
def spNumL : Sp := fun vs H Q _ => ∃ z : Str, vs = [.str z] ∧ Asc 20000 z ∧ Q (.int (numV z)) H
def spExitL : Sp := fun vs H Q _ => ∃ z : Str, vs = [.str z] ∧ Asc 20000 z ∧ Q (.int (wayV z)) H
def spWrites : Sp := fun vs H Q _ => ∃ z : Str, vs = [.str z] ∧ Asc 20000 z ∧ (Wr z → ∀ H', Same H H' → Q (.bl true) H') ∧ (¬ Wr z → ∀ H', Same H H' → Q (.bl false) H')
theorem empty_is (z : Str) : (z = Str.ofString "") ↔ z.length = 0 := by
  constructor
  · intro e
    rw [e]
    decide +kernel
  · intro h
    have e : (Str.ofString "").cps.toList = [] := by decide +kernel
    refine str_toList ?_
    rw [e]
    have : z.cps.toList.length = z.length := Array.length_toList
    exact List.eq_nil_of_length_eq_zero (by omega)
def ascOk (s : String) : Bool := (Str.ofString s).cps.all (· < 128) && decide ((Str.ofString s).length ≤ 100)
theorem asc_k {s : String} (h : ascOk s = true := by decide +kernel) : Asc 100 (Str.ofString s) := by
  unfold ascOk at h
  rw [Bool.and_eq_true] at h
  refine ⟨fun c hc => ?_, of_decide_eq_true h.2⟩
  have := Array.all_eq_true'.mp h.1 c (by simpa using hc)
  simpa using this
theorem sz2 {x y : Str} {n m : Nat} (h : Asc n x) (k : Asc m y) (l : n + m ≤ 1000000 := by decide) : x.length + y.length ≤ sizeLine := by
  have := h.l
  have := k.l
  exact size_of (by omega)
theorem rep_asc {x z : Str} {n : Int} (A : Asc 100 x) (m : ∀ c ∈ z.cps.toList, c ∈ x.cps.toList) (l : z.length ≤ x.length * n.toNat) (h : n ≤ 20) : Asc 2000 z :=
  A.sub m (Nat.le_trans l (Nat.le_trans (Nat.mul_le_mul A.l (show n.toNat ≤ 20 by omega)) (by decide)))
theorem at_strs {L : List Str} {d : Int} (h0 : 0 ≤ d) (h1 : d < (L.length : Int)) : ∃ z, z ∈ L ∧ atI (L.map V.str) d = some (V.str z) := by
  obtain ⟨n, rfl⟩ : ∃ n : Nat, d = (n : Int) := ⟨d.toNat, by omega⟩
  have h : n < L.length := by omega
  exact ⟨L[n], List.getElem_mem h, atI_nat (by rw [List.getElem?_map, List.getElem?_eq_getElem h]; rfl)⟩
theorem at_signs {z : Str} {d : Int} (h0 : 0 ≤ d) (h1 : d < (z.length : Int)) : ∃ c, c ∈ z.cps.toList ∧ atI z.cps.toList d = some c := by
  obtain ⟨n, rfl⟩ : ∃ n : Nat, d = (n : Int) := ⟨d.toNat, by omega⟩
  have e : z.cps.toList.length = z.length := Array.length_toList
  have h : n < z.cps.toList.length := by omega
  exact ⟨z.cps.toList[n], List.getElem_mem h, atI_nat (List.getElem?_eq_getElem h)⟩
theorem one_asc {z : Str} {n c : Nat} (A : Asc n z) (h : c ∈ z.cps.toList) : Asc 1 ⟨#[c]⟩ := ⟨fun d hd => by
  have : d = c := by simpa using hd
  rw [this]; exact A.a c h, Nat.le_refl _⟩
theorem num_asc {n : Int} (h : Nu n) : Asc 20 (numS n) := ⟨fun c hc => by have := (num_digit h.1 c hc).2; omega, num_le h⟩
theorem word_asc {e : Int} (h : e = -1 ∨ Nu e) : Asc 20 (wordS e) := by
  unfold wordS
  split
  · exact ⟨(asc_k (s := "pit")).a, by decide +kernel⟩
  · rename_i n
    exact num_asc (h.resolve_left n)
theorem line_asc {t l s : Int} {r : List Int} (h1 : Nu t) (h2 : Nu l) (h3 : Nu s) (hr : ∀ e ∈ r, e = -1 ∨ Nu e) (h8 : r.length ≤ 8) : Asc 252 (lineS t l s r) := by
  unfold lineS
  rw [sp_is]
  refine (Asc.join (c := 32) (by decide) (n := 12) (B := 20) (fun p hp => ?_) ?_).le (by decide)
  · unfold lineW at hp
    simp only [List.mem_append, List.mem_cons, List.not_mem_nil, or_false, List.mem_map] at hp
    rcases hp with ((rfl | rfl | rfl) | rfl) | ⟨e, he, rfl⟩
    · exact num_asc h1
    · exact num_asc h2
    · exact num_asc h3
    · exact ⟨(asc_k (s := ">")).a, by decide +kernel⟩
    · exact word_asc (hr e he)
  · unfold lineW
    simp
    omega
theorem nu_way {b : Brd} (N : BNu b) {i : Nat} (hi : i < b.rows.length) : ∀ e ∈ b.rows.getD i [], e = -1 ∨ Nu e := fun e he => by
  have h := (N.O.W.2.2 _ (gD_mem hi)).2.2 e he
  have := N.O.W.2.1
  by_cases q : e = -1
  · exact .inl q
  · exact .inr (nu_of (by omega) (by omega))
theorem head_asc {w : Int} (h : Nu w) : Asc 252 (headS w) := (((asc_k (s := "board")).cat (asc_k (s := " "))).cat (num_asc h)).le (by decide)
theorem lines_asc {b : Brd} (N : BNu b) : ∀ p ∈ linesS b, Asc 252 p := fun p hp => by
  unfold linesS at hp
  rcases List.mem_cons.mp hp with rfl | hp
  · exact head_asc N.k
  · obtain ⟨i, hi, rfl⟩ := List.mem_map.mp hp
    have hi := List.mem_range.mp hi
    exact line_asc (N.t hi) (N.l i) (N.s i) (nu_way N hi) (N.O.W.2.2 _ (gD_mem hi)).2.1
theorem text_asc {b : Brd} (N : BNu b) : Asc 4000 (textS b) := by
  unfold textS
  rw [nl_is]
  refine (Asc.join (c := 10) (by decide) (n := 13) (B := 252) (lines_asc N) ?_).le (by decide)
  unfold linesS
  have := N.O.W.2.1
  simp
  omega
def spOdd (K : PySem.W.Frag) : Sp := fun vs H Q _ => ∃ (a : Addr) (ns : List Int), vs = [.ref a] ∧ SqL K H a (ns.map V.int) ∧ ∀ z H', Asc 20000 z → Same H H' → Q (.str z) H'
def spChg (K : PySem.W.Frag) : Sp := fun vs H Q _ => ∃ (a : Addr) (ns : List Int) (b : Brd), vs = [.ref a, .str (textS b)] ∧ SqL K H a (ns.map V.int) ∧ BNu b ∧ ∀ z H', Asc 20000 z → Same H H' → Q (.str z) H'
theorem get_sum : ∀ (l : List Int) (i : Nat), (∀ i, 0 ≤ l.getD i 0) → 0 ≤ l.sum ∧ l.getD i 0 ≤ l.sum
  | [], i, _ => ⟨Int.le_refl _, by simp⟩
  | x :: r, i, h => by
    have h0 : 0 ≤ x := h 0
    have hr : ∀ i, 0 ≤ r.getD i 0 := fun i => h (i + 1)
    obtain ⟨a, b⟩ := get_sum r (i - 1) hr
    rw [List.sum_cons]
    cases i with
    | zero => exact ⟨by omega, by show x ≤ _; omega⟩
    | succ i =>
      refine ⟨by omega, ?_⟩
      show r.getD i 0 ≤ _
      rw [Nat.add_sub_cancel] at b
      omega
theorem bnu_new {rows : List (List Int)} {ts ls : List Int} (W : Wf rows) (hts : TurnsOk rows ts) (hll : ls.length = rows.length) (hnn : ∀ i, 0 ≤ ls.getD i 0) (hs : ls.sum ≤ 400) : BNu ⟨rows, ts, ls, List.replicate rows.length 0, 0⟩ :=
  ⟨⟨W, hts, hll, by simp, hnn⟩, nu_of (Int.le_refl 0) (by show (0 : Int) ≤ 1000000; decide), fun i => nu_of (hnn i) (by have := (get_sum ls i hnn).2; show ls.getD i 0 ≤ _; omega), fun i => (by
    show Nu ((List.replicate rows.length (0 : Int)).getD i 0)
    have e : (List.replicate rows.length (0 : Int)).getD i 0 = 0 := by
      rw [List.getD_eq_getElem?_getD, List.getElem?_replicate]
      split <;> rfl
    rw [e]
    exact nu_of (Int.le_refl 0) (by decide)), hs⟩
theorem chain_new {H : Hp} {c : Option Addr} {e D : Addr} {o : Obj} {u : HO} {vs : Array Value} (h : CtxH c H) (k : CtxOf c e vs) (c1 : o.cls = .ref D) (c2 : o.data = .fields vs) : ChainH (upd H e (.frz o u)) e := by
  refine ⟨o, u, vs, D, upd_same, c1, c2, ?_⟩
  rcases h with rfl | ⟨r, o2, u2, ws, D2, rfl, h1, h2, h3, h4⟩
  · exact .inl k
  · exact .inr ⟨r, o2, u2, ws, D2, k.1, k.2, by rw [upd_ne k.2]; exact h1, h2, h3, h4⟩
section
variable {P : Program} {w : World} {K : PySem.W.Frag} {mg : Str → Option Value} {base : Heap} {A : Adr}
theorem sc_read_number : FnScope ["word"] ["word"] (defScope s_read_number) := ⟨rfl, rfl, rfl, by decide +kernel, rfl, by decide +kernel, by decide +kernel⟩
theorem ok_read_number (T : Txt K mg A) : FnOk P w K mg base (CX1 P w) 1 A.f_read_number A.fd_read_number ["word"] (spRdNx A.c_NoBoard) := by
  refine T.F_read_number.okX sc_read_number (fun vs H Q E h => ?_) (fun cdv A' outer s H vs Q E hr h => ?_)
  · obtain ⟨z, rfl, _⟩ := h
    rfl
  · obtain ⟨z, rfl, Az, q, xe⟩ := h
    have lz := Az.l
    have nb := isNum_by Az
    refine ⟨_, (pss_cons (ps_if (PW.pt (pw_or (pt_not (pt_chain op_le op_le pe_int (pe_callB call_len_str (by rfl) T.n_len PySem.boot_len (pa_cons (pv 0) pa_nil)) (pe_glob (v := .int (20)) (by rfl) T.g_MOST_FIGURES ⟨_, rfl⟩))) (pw_or1 (pt_not (pt_val (pe_callB (call_allK (K := K) rfl rfl) (by rfl) T.n_all PyProof.Rows.Boot.«all» (pa_cons (pe_comp (CompSc.of (N' := ["sign"]) (ix := [none]) rfl (by kernel_rfl)) rfl rfl rfl rfl (pi_str (pv 0)) (by exact fun _ _ _ _ _ => pf_nil) (by exact fun _ _ _ _ _ hI => (pe_cmpR op_in_str (pv 0) (pe_glob (v := .str "0123456789") (by rfl) T.g_FIGURES ⟨_, rfl⟩) (by with_unfolding_all rfl))) (fun _ => rfl)) pa_nil)))))))
        (pss_one (ps_raise raises_cx rfl (by rfl) T.m_NoBoard T.x_NoBoard (pa_cons (pe_fs (pj_str (by decide +kernel) (pj_int (pe_glob (v := .int (20)) (by rfl) T.g_MOST_FIGURES ⟨_, rfl⟩) (pj_str (by decide +kernel) pj_nil))) (by decide)) pa_nil)))
        pss_nil)
      (pss_cons (ps_if (PW.pt (pw_and (pt_cmpR op_eq (pe_ix ix_str (pv 0) pe_int (fun _ _ => rfl)) pe_str (nomark _)) (pw_and1 (pt_cmpR op_ne (pv 0) pe_str (nomark _)))))
        (pss_one (ps_raise raises_cx rfl (by rfl) T.m_NoBoard T.x_NoBoard (pa_cons pe_str pa_nil)))
        pss_nil)
      (pss_one (ps_ret (pe_callTy call_int_str (by rfl) T.n_int PyProof.Rows.Boot.«int» (pa_cons (pv 0) pa_nil)))))), ?_⟩
    refine ⟨_, rfl, _, rfl, size_of (by omega), _, _, rfl, rfl, _, rfl, ?_⟩
    by_cases c1 : (1 : Int) ≤ (z.length : Int)
    case neg =>
      rw [decide_eq_false c1]
      refine iteF ?_
      refine ⟨_, rfl, ?_⟩
      refine iteT ?_
      exact ⟨⟨_, rfl, by decide, rfl, trivial⟩, fun x => ⟨small12 (by show 1 ≤ 100; decide), xe (fun y => c1 (by have := (nb.mp y).1.1; omega)) _ (Same.refl _)⟩⟩
    rw [decide_eq_true c1]
    refine iteT ?_
    refine ⟨_, _, rfl, rfl, _, rfl, ?_⟩
    by_cases c2 : (z.length : Int) ≤ 20
    case neg =>
      rw [decide_eq_false c2]
      refine iteT ?_
      exact ⟨⟨_, rfl, by decide, rfl, trivial⟩, fun x => ⟨small12 (by show 1 ≤ 100; decide), xe (fun y => c2 (by have := (nb.mp y).1.2; omega)) _ (Same.refl _)⟩⟩
    rw [decide_eq_true c2]
    refine iteF ?_
    refine ⟨_, rfl, _, rfl, Az.all, ?_⟩
    refine comp_pure (ys := (z.cps.toList.map fun c => decide (48 ≤ c ∧ c ≤ 57)).map V.bl) (wk_str (z := z)) (by rw [signsV, List.length_map]; exact size_of (by have e : z.cps.toList.length = z.length := Array.length_toList; omega)) (by simp [signsV]) (fun i x y ex ey Q' q' => ?_) (fun D hD => ?_)
    · rw [signsV, List.getElem?_map] at ex
      rw [List.getElem?_map, List.getElem?_map] at ey
      cases ec : z.cps.toList[i]? with
      | none => rw [ec] at ex; cases ex
      | some c =>
        rw [ec] at ex ey
        cases ex
        cases ey
        refine ⟨_, rfl, _, _, rfl, rfl, ?_⟩
        rw [fig_iff c (Az.a c (List.mem_of_getElem? ec))]
        exact q'
    have s1 : Same H (upd H D (.lst ((z.cps.toList.map fun c => decide (48 ≤ c ∧ c ≤ 57)).map V.bl))) := same_new hD
    refine ⟨D, _, rfl, SqL.of upd_same, _, rfl, ?_⟩
    show _
    generalize upd H D (.lst ((z.cps.toList.map fun c => decide (48 ≤ c ∧ c ≤ 57)).map V.bl)) = H1 at s1
    by_cases c3 : ∀ c ∈ z.cps.toList, 48 ≤ c ∧ c ≤ 57
    case neg =>
      have e3 : ((z.cps.toList.map fun c => decide (48 ≤ c ∧ c ≤ 57)).all id) = false := by
        rw [Bool.eq_false_iff]
        intro e
        refine c3 fun c hc => ?_
        have := List.all_eq_true.mp e _ (List.mem_map.mpr ⟨c, hc, rfl⟩)
        exact of_decide_eq_true this
      rw [e3]
      refine iteT ?_
      exact ⟨⟨_, rfl, by decide, rfl, trivial⟩, fun x => ⟨small12 (by show 1 ≤ 100; decide), xe (fun y => c3 (nb.mp y).2.1) _ s1⟩⟩
    have e3 : ((z.cps.toList.map fun c => decide (48 ≤ c ∧ c ≤ 57)).all id) = true := by
      rw [List.all_eq_true]
      intro x hx
      obtain ⟨c, hc, rfl⟩ := List.mem_map.mp hx
      exact decide_eq_true (c3 c hc)
    rw [e3]
    refine iteF ?_
    obtain ⟨c, hc⟩ : ∃ c, z.cps[0]? = some c := by
      have e : z.cps.size = z.length := rfl
      exact ⟨_, Array.getElem?_eq_getElem (by omega)⟩
    have hat : atI z.cps.toList 0 = some c := at_list (n := 0) rfl (by simpa using hc)
    have fin : (z.cps[0]? = some 48 → z = Str.ofString "0") → _ := fun h0 => (show IsNum z from nb.mpr ⟨⟨by omega, by omega⟩, c3, h0⟩)
    have done : IsNum z → PySem.intText? z = some (numV z) := fun N => by
      obtain ⟨n1, n2⟩ := numV_nn (isNum_iff.mp N)
      conv => lhs; rw [n2]
      exact num_int n1
    refine ⟨_, rfl, _, _, c, rfl, rfl, size_of (by omega), hat, rfl, _, rfl, ?_⟩
    refine ite2 (fun h1 => ?_) (fun h1 => ?_)
    · have ec : c = 48 := by
        have h2 := of_decide_eq_true h1
        rw [zero_is] at h2
        injection h2 with h2
        injection h2 with h2
        simpa using h2
      refine ⟨_, rfl, rfl, _, rfl, ?_⟩
      by_cases ez : z = Str.ofString "0"
      · rw [decide_eq_true (show V.str z = V.str (Str.ofString "0") by rw [ez])]
        refine iteF ?_
        have N := fin fun _ => ez
        exact ⟨_, rfl, _, numV z, rfl, done N, by omega, q N _ s1⟩
      · rw [decide_eq_false (show ¬ V.str z = V.str (Str.ofString "0") from fun h => ez (by injection h))]
        refine iteT ?_
        exact ⟨small12 (by show 1 ≤ 100; decide), xe (fun y => ez ((nb.mp y).2.2 (by rw [hc, ec]))) _ s1⟩
    · have N := fin fun e => by
        rw [hc] at e
        refine absurd ?_ h1
        rw [Option.some.inj e, zero_is]
        exact decide_eq_true rfl
      exact ⟨_, rfl, _, numV z, rfl, done N, by omega, q N _ s1⟩
theorem sc_read_way : FnScope ["word"] ["word"] (defScope s_read_way) := ⟨rfl, rfl, rfl, by decide +kernel, rfl, by decide +kernel, by decide +kernel⟩
theorem ok_read_way (T : Txt K mg A) (G_read_number : FnOk P w K mg base (CX1 P w) 1 A.f_read_number A.fd_read_number ["word"] (spRdNx A.c_NoBoard)) : FnOk P w K mg base (CX1 P w) 2 A.f_read_way A.fd_read_way ["word"] (spRdWx A.c_NoBoard) := by
  refine T.F_read_way.okX sc_read_way (fun vs H Q E h => ?_) (fun cdv A' outer s H vs Q E hr h => ?_)
  · obtain ⟨z, rfl, _⟩ := h
    rfl
  · obtain ⟨z, rfl, Az, q, xe⟩ := h
    refine ⟨_, (pss_one (ps_ret (pe_ifExp (pt_cmpR op_eq (pv 0) (pe_glob (v := .str "pit") (by rfl) T.g_PIT_WORD ⟨_, rfl⟩) (nomark _)) (pe_glob (v := .int (-1)) (by rfl) T.g_PIT ⟨_, rfl⟩) (pe_call G_read_number (hr.mono (by decide)) (by rfl) T.m_read_number T.k_read_number T.b_read_number .nil passX (pa_cons (pv 0) pa_nil))))), ?_⟩
    refine ⟨_, rfl, rfl, _, rfl, ?_⟩
    refine ite2 (fun h1 => ?_) (fun h1 => ?_)
    · have h2 := of_decide_eq_true h1
      injection h2 with h2
      have e : wayV z = -1 := by unfold wayV; rw [if_pos h2]
      rw [e] at q
      exact q (by decide) _ (Same.refl _)
    · have h2 : ¬ z = Str.ofString "pit" := fun e => h1 (by rw [e]; exact decide_eq_true rfl)
      have e : wayV z = numV z := by unfold wayV; rw [if_neg h2]
      rw [e] at q xe
      refine ⟨_, rfl, z, rfl, Az, fun N => q (by have := isNum_iff.mp N; omega), fun N => xe fun y => N ?_⟩
      rcases numV_cases z with ⟨n1, n2⟩ | ⟨_, n2⟩
      · exact ⟨_, n1, n2⟩
      · rw [n2] at y; exact absurd y (by decide)
theorem sc_read_row : FnScope ["words"] ["words"] (defScope s_read_row) := ⟨rfl, rfl, rfl, by decide +kernel, rfl, by decide +kernel, by decide +kernel⟩
theorem ok_read_row (T : Txt K mg A) (G_read_way : FnOk P w K mg base (CX1 P w) 2 A.f_read_way A.fd_read_way ["word"] (spRdWx A.c_NoBoard)) : FnOk P w K mg base (CX1 P w) 3 A.f_read_row A.fd_read_row ["words"] (spRdRx K A.c_NoBoard) := by
  refine T.F_read_row.okX sc_read_row (fun vs H Q E h => ?_) (fun cdv A' outer s H vs Q E hr h => ?_)
  · obtain ⟨a, ws, rfl, _⟩ := h
    rfl
  · obtain ⟨a, ws, rfl, hS, hA, hlen, q, xe⟩ := h
    refine ⟨_, (pss_one (ps_ret (pe_comp (CompSc.of (N' := ["word"]) (ix := [none]) rfl (by kernel_rfl)) rfl rfl rfl rfl (pi_listK (K := K) rfl (pe_slice (sl_listK (K := K) rfl) (pv 0) (po_some pe_int) po_none)) (by exact fun _ _ _ _ _ => pf_nil) (by exact fun _ _ _ _ _ hI => (pe_call G_read_way (hr.mono (by decide)) (by rfl) T.m_read_way T.k_read_way T.b_read_way .nil (passC hI) (pa_cons (pv 0) pa_nil))) (fun _ => rfl)))), ?_⟩
    refine ⟨_, rfl, _, rfl, _, _, rfl, hS, fun p hp => ?_⟩
    rw [show (4 : Int) = ((4 : Nat) : Int) from rfl, cutS_from 4]
    have s1 : Same H (upd H p (.lst ((ws.drop 4).map V.str))) := same_new hp
    have e1 : (upd H p (.lst ((ws.drop 4).map V.str))) p = some (.lst ((ws.drop 4).map V.str)) := upd_same
    refine ⟨p, rfl, ⟨_, SqL.of upd_same⟩, ?_⟩
    show CompW _ _ _ _ _ _ (upd H p (.lst ((ws.drop 4).map V.str)))
    generalize upd H p (.lst ((ws.drop 4).map V.str)) = H1 at s1 e1
    have hd : (ws.drop 4).length ≤ 20001 := by rw [List.length_drop]; omega
    refine comp_valsX (ys := ((ws.drop 4).map wayV).map V.int) (g := fun i => -1 ≤ wayV ((ws.drop 4).getD i Str.empty)) (wk_list (K := K) (SqL.of e1)) (by rw [List.length_map]; exact size_of (by omega)) (by simp) (fun i x y H3 ex ey s3 Q' q' => ?_) (fun H' D s' hg hD => ?_)
    · rw [List.getElem?_map] at ex ey
      rw [List.getElem?_map] at ey
      cases er : (ws.drop 4)[i]? with
      | none => rw [er] at ex; cases ex
      | some w =>
        rw [er] at ex ey
        cases ex
        cases ey
        have hw := List.mem_of_getElem? er
        have eg : (ws.drop 4).getD i Str.empty = w := by rw [List.getD_eq_getElem?_getD, er]; rfl
        refine ⟨_, rfl, w, rfl, hA w (List.mem_of_mem_drop hw), fun g => q' (by rw [eg]; exact g), fun g H4 s4 => xe (fun y => g (y w hw)) _ ((s1.trans s3).trans s4)⟩
    · rw [List.length_map] at hg
      refine q (fun w hw => ?_) D _ (same_upd (s1.trans s') (s1.free (s'.free hD))) (s1.free (s'.free hD)) upd_same
      obtain ⟨i, hi, e⟩ := List.getElem_of_mem hw
      have := hg i hi
      rw [List.getD_eq_getElem?_getD, List.getElem?_eq_getElem hi, e] at this
      exact this
theorem sc_read_numbers : FnScope ["words"] ["words"] (defScope s_read_numbers) := ⟨rfl, rfl, rfl, by decide +kernel, rfl, by decide +kernel, by decide +kernel⟩
theorem ok_read_numbers (T : Txt K mg A) (G_read_number : FnOk P w K mg base (CX1 P w) 1 A.f_read_number A.fd_read_number ["word"] (spRdNx A.c_NoBoard)) : FnOk P w K mg base (CX1 P w) 2 A.f_read_numbers A.fd_read_numbers ["words"] (spRdSx K A.c_NoBoard) := by
  refine T.F_read_numbers.okX sc_read_numbers (fun vs H Q E h => ?_) (fun cdv A' outer s H vs Q E hr h => ?_)
  · obtain ⟨a, ws, rfl, _⟩ := h
    rfl
  · obtain ⟨a, ws, rfl, hS, hA, hlen, q, xe⟩ := h
    have hul : _ + (0 + 1) < cLine := Nat.lt_of_le_of_lt (Nat.add_le_add_left (by decide : 0 + 1 ≤ 64) _) hr.units
    refine ⟨_, (pss_cons (ps_if (pt_cmpR (op_neSK (K := K) rfl hul) (pe_slice (sl_listK (K := K) rfl) (pv 0) (po_some pe_int) (po_some pe_int)) (pe_lst (pa_cons (pe_glob (v := .str ">") (by rfl) T.g_MARK ⟨_, rfl⟩) pa_nil)) (nomark _))
        (pss_one (ps_raise raises_cx rfl (by rfl) T.m_NoBoard T.x_NoBoard (pa_cons pe_str pa_nil)))
        pss_nil)
      (pss_one (ps_ret (pe_comp (CompSc.of (N' := ["word"]) (ix := [none]) rfl (by kernel_rfl)) rfl rfl rfl rfl (pi_listK (K := K) rfl (pe_slice (sl_listK (K := K) rfl) (pv 0) po_none (po_some pe_int))) (by exact fun _ _ _ _ _ => pf_nil) (by exact fun _ _ _ _ _ hI => (pe_call G_read_number (hr.mono (by decide)) (by rfl) T.m_read_number T.k_read_number T.b_read_number .nil (passC hI) (pa_cons (pv 0) pa_nil))) (fun _ => rfl))))), ?_⟩
    refine ⟨_, rfl, _, rfl, _, rfl, _, _, rfl, hS, fun p hp => ?_⟩
    rw [show (3 : Int) = ((3 : Nat) : Int) from rfl, show (4 : Int) = ((4 : Nat) : Int) from rfl, cutS_mid]
    have s1 : Same H (upd H p (.lst (ws[3]?.toList.map V.str))) := same_new hp
    have e1 : (upd H p (.lst (ws[3]?.toList.map V.str))) p = some (.lst (ws[3]?.toList.map V.str)) := upd_same
    show tLst _ _ (upd H p (.lst (ws[3]?.toList.map V.str))) _
    generalize upd H p (.lst (ws[3]?.toList.map V.str)) = H1 at s1 e1
    refine ⟨small12 (by show 1 ≤ 100; decide), fun l2 hl2 => ⟨p, l2, _, [Str.ofString ">"], rfl, rfl, SqL.of (same_new hl2 _ _ e1), SqL.of upd_same, _, rfl, ?_⟩⟩
    have s2 : Same H (upd H1 l2 (.lst [V.str (Str.ofString ">")])) := same_upd s1 (s1.free hl2)
    show _
    generalize upd H1 l2 (.lst [V.str (Str.ofString ">")]) = H2 at s2
    by_cases c1 : ws[3]? = some (Str.ofString ">")
    case neg =>
      have e : decide (ws[3]?.toList = [Str.ofString ">"]) = false := decide_eq_false fun z => c1 (by
        cases q : ws[3]? with
        | none => rw [q] at z; cases z
        | some x => rw [q] at z; cases z; rfl)
      rw [e]
      refine iteT ?_
      exact ⟨small12 (by show 1 ≤ 100; decide), xe (fun y => c1 y.1) _ s2⟩
    have e : decide (ws[3]?.toList = [Str.ofString ">"]) = true := decide_eq_true (by rw [c1]; rfl)
    rw [e]
    refine iteF ?_
    refine ⟨_, rfl, _, rfl, _, _, rfl, s2.seq hS, fun p3 hp3 => ?_⟩
    rw [cutS_to 3]
    have l3 : 4 ≤ ws.length := by have := (List.getElem?_eq_some_iff.mp c1).1; omega
    have s3 : Same H2 (upd H2 p3 (.lst ((ws.take 3).map V.str))) := same_new hp3
    have e3 : (upd H2 p3 (.lst ((ws.take 3).map V.str))) p3 = some (.lst ((ws.take 3).map V.str)) := upd_same
    refine ⟨p3, rfl, ⟨_, SqL.of upd_same⟩, ?_⟩
    show CompW _ _ _ _ _ _ (upd H2 p3 (.lst ((ws.take 3).map V.str)))
    generalize upd H2 p3 (.lst ((ws.take 3).map V.str)) = H3 at s3 e3
    have s03 := s2.trans s3
    have lt : (ws.take 3).length = 3 := by rw [List.length_take]; omega
    have en : ((ws.take 3).map numV) = nums3 ws := nums3_is l3
    refine comp_valsX (ys := ((ws.take 3).map numV).map V.int) (g := fun i => 0 ≤ numV ((ws.take 3).getD i Str.empty)) (wk_list (K := K) (SqL.of e3)) (by rw [List.length_map, lt]; exact small12 (by decide)) (by simp) (fun i x y H4 ex ey s4 Q' q' => ?_) (fun H' D s' hg hD => ?_)
    · rw [List.getElem?_map] at ex ey
      rw [List.getElem?_map] at ey
      cases er : (ws.take 3)[i]? with
      | none => rw [er] at ex; cases ex
      | some w =>
        rw [er] at ex ey
        cases ex
        cases ey
        have hw := List.mem_of_getElem? er
        have eg : (ws.take 3).getD i Str.empty = w := by rw [List.getD_eq_getElem?_getD, er]; rfl
        refine ⟨_, rfl, w, rfl, hA w (List.mem_of_mem_take hw), fun g => q' (by rw [eg]; exact isNum_iff.mp g), fun g H5 s5 => xe (fun y => g (isNum_iff.mpr (y.2 w hw))) _ ((s03.trans s4).trans s5)⟩
    · rw [List.length_map] at hg
      rw [en]
      refine q ⟨c1, fun w hw => ?_⟩ D _ (same_upd (s03.trans s') (s03.free (s'.free hD))) (s03.free (s'.free hD)) upd_same
      obtain ⟨i, hi, e⟩ := List.getElem_of_mem hw
      have := hg i hi
      rw [List.getD_eq_getElem?_getD, List.getElem?_eq_getElem hi, e] at this
      exact this
theorem sc_read_head : FnScope ["words"] ["words"] (defScope s_read_head) := ⟨rfl, rfl, rfl, by decide +kernel, rfl, by decide +kernel, by decide +kernel⟩
theorem ok_read_head (T : Txt K mg A) (G_read_number : FnOk P w K mg base (CX1 P w) 1 A.f_read_number A.fd_read_number ["word"] (spRdNx A.c_NoBoard)) : FnOk P w K mg base (CX1 P w) 2 A.f_read_head A.fd_read_head ["words"] (spRdHx K A.c_NoBoard) := by
  refine T.F_read_head.okX sc_read_head (fun vs H Q E h => ?_) (fun cdv A' outer s H vs Q E hr h => ?_)
  · obtain ⟨a, ws, rfl, _⟩ := h
    rfl
  · obtain ⟨a, ws, rfl, hS, hA, q, xe⟩ := h
    refine ⟨_, (pss_cons (ps_if (PW.pt (pw_or (pt_cmpR op_ne (pe_callB (call_lenK (K := K) rfl) (by rfl) T.n_len PySem.boot_len (pa_cons (pv 0) pa_nil)) pe_int (nomark _)) (pw_or1 (pt_cmpR op_ne (pe_ix (ix_listK (K := K) rfl) (pv 0) pe_int (fun _ _ => rfl)) (pe_glob (v := .str "board") (by rfl) T.g_HEAD ⟨_, rfl⟩) (nomark _)))))
        (pss_one (ps_raise raises_cx rfl (by rfl) T.m_NoBoard T.x_NoBoard (pa_cons pe_str pa_nil)))
        pss_nil)
      (pss_one (ps_ret (pe_call G_read_number (hr.mono (by decide)) (by rfl) T.m_read_number T.k_read_number T.b_read_number .nil passX (pa_cons (pe_ix (ix_listK (K := K) rfl) (pv 0) pe_int (fun _ _ => rfl)) pa_nil))))), ?_⟩
    refine ⟨_, rfl, _, _, rfl, .inl hS, rfl, _, rfl, ?_⟩
    rw [List.length_map]
    by_cases c1 : ws.length = 2
    case neg =>
      rw [decide_eq_false (show ¬ V.int (ws.length : Int) = V.int 2 from fun z => c1 (by injection z with z; omega))]
      refine iteT ?_
      refine iteT ?_
      exact ⟨small12 (by show 1 ≤ 100; decide), xe (fun ⟨w, e, _⟩ => c1 (by rw [e]; rfl)) _ (Same.refl _)⟩
    rw [decide_eq_true (show V.int (ws.length : Int) = V.int 2 by rw [c1]; rfl)]
    refine iteF ?_
    obtain ⟨x, y, rfl⟩ : ∃ x y, ws = [x, y] := by
      match ws, c1 with
      | [x, y], _ => exact ⟨x, y, rfl⟩
    refine ⟨_, rfl, _, _, _, _, rfl, rfl, hS, at_list (n := 0) rfl rfl, rfl, _, rfl, ?_⟩
    by_cases c2 : x = Str.ofString "board"
    case neg =>
      rw [decide_eq_false (show ¬ V.str x = V.str (Str.ofString "board") from fun z => c2 (by injection z))]
      refine iteT ?_
      exact ⟨small12 (by show 1 ≤ 100; decide), xe (fun ⟨w, e, _⟩ => c2 (by injection e)) _ (Same.refl _)⟩
    subst c2
    rw [decide_eq_true rfl]
    refine iteF ?_
    exact ⟨_, rfl, _, _, _, _, rfl, rfl, hS, at_list (n := 1) rfl rfl, y, rfl, hA y (by simp), fun N => q ⟨y, rfl, N⟩, fun N => xe (fun ⟨w, e, N'⟩ => N (by injection e with _ e; injection e with e _; rw [e]; exact N'))⟩
theorem sc_check_row : FnScope ["row", "sites", "way"] ["row", "sites"] (defScope s_check_row) := ⟨rfl, rfl, rfl, by decide +kernel, rfl, by decide +kernel, by decide +kernel⟩
theorem ok_check_row (T : Txt K mg A) : FnOk P w K mg base (CX1 P w) 1 A.f_check_row A.fd_check_row ["row", "sites"] (spCheckRowX K A.c_NoExit) := by
  refine T.F_check_row.okX sc_check_row (fun vs H Q E h => ?_) (fun cdv A' outer s H vs Q E hr h => ?_)
  · obtain ⟨a, r, n, rfl, _⟩ := h
    rfl
  · obtain ⟨a, r, n, rfl, hS, bd, q, xe⟩ := h
    refine ⟨_, (pss_cons (ps_if (pt_not (pt_chain op_le op_le pe_int (pe_callB (call_lenK (K := K) rfl) (by rfl) T.n_len PySem.boot_len (pa_cons (pv 0) pa_nil)) (pe_glob (v := .int (8)) (by rfl) T.g_MOST_EXITS ⟨_, rfl⟩)))
        (pss_one (ps_raise raises_cx rfl (by rfl) T.m_NoExit T.x_NoExit (pa_cons (pe_fs (pj_str (by decide +kernel) (pj_int (pe_glob (v := .int (8)) (by rfl) T.g_MOST_EXITS ⟨_, rfl⟩) (pj_str (by decide +kernel) pj_nil))) (by decide)) pa_nil)))
        pss_nil)
      (pss_one (ps_for PassesOwn.leaving rfl (pi_listK (K := K) rfl (pv 0)) (pg_name (i := 2) sc_check_row.nd rfl (Or.inl rfl))
        (pss_one (ps_if (PW.pt (pw_and (pt_cmpR op_ne (pv 2) (pe_glob (v := .int (-1)) (by rfl) T.g_PIT ⟨_, rfl⟩) (nomark _)) (pw_and1 (pt_not (pt_chain op_le op_lt pe_int (pv 2) (pv 1))))))
          (pss_one (ps_raise raises_cx rfl (by rfl) T.m_NoExit T.x_NoExit (pa_cons (pe_fs (pj_str (by decide +kernel) (pj_int (pv 2) pj_nil)) (by decide)) pa_nil)))
          pss_nil))))), ?_⟩
    have hl : (r.map V.int).length = r.length := by simp
    refine ⟨_, rfl, _, _, rfl, .inl hS, _, _, rfl, rfl, _, rfl, ?_⟩
    rw [hl]
    by_cases c1 : (1 : Int) ≤ (r.length : Int)
    case neg =>
      rw [decide_eq_false c1]
      refine iteF ?_
      refine ⟨_, rfl, ?_⟩
      refine iteT ?_
      exact ⟨⟨_, rfl, by decide, rfl, trivial⟩, fun x => ⟨small12 (by show 1 ≤ 100; decide), xe (fun y => by have := y.1; omega)⟩⟩
    rw [decide_eq_true c1]
    refine iteT ?_
    refine ⟨_, _, rfl, rfl, _, rfl, ?_⟩
    by_cases c2 : (r.length : Int) ≤ 8
    case neg =>
      rw [decide_eq_false c2]
      refine iteT ?_
      exact ⟨⟨_, rfl, by decide, rfl, trivial⟩, fun x => ⟨small12 (by show 1 ≤ 100; decide), xe (fun y => by have := y.2.1; omega)⟩⟩
    rw [decide_eq_true c2]
    refine iteF ?_
    refine ⟨_, rfl, a, rfl, ⟨_, hS⟩, for_list (K := K) (a := a) (xs := r.map V.int) (fun i σ H2 => ∃ x2 : Option V, σ = [some (.ref a), some (.int (n : Int)), x2] ∧ H2 = H ∧ ∀ e ∈ r.take i, -1 ≤ e ∧ e < (n : Int)) ⟨none, rfl, rfl, by simp⟩ (fun i σ H2 _ ⟨_, _, e, _⟩ => by rw [e]; exact hS) ?_ ?_⟩
    · rintro i x' σ H2 hi ⟨x2, rfl, rfl, ih⟩
      obtain ⟨z, ez, rfl⟩ : ∃ z, r[i]? = some z ∧ x' = V.int z := by
        rw [List.getElem?_map] at hi
        cases e : r[i]? with
        | none => rw [e] at hi; cases hi
        | some z =>
          rw [e] at hi
          exact ⟨z, rfl, (Option.some.inj hi).symm⟩
      have hz : z ∈ r := List.mem_of_getElem? ez
      have go : -1 ≤ z ∧ z < (n : Int) → ∀ e ∈ r.take (i + 1), -1 ≤ e ∧ e < (n : Int) := fun hz' e he => by
        rw [take_snoc ez] at he
        rcases List.mem_append.mp he with y | y
        · exact ih e y
        · rw [List.mem_singleton.mp y]; exact hz'
      have bad : ¬ (-1 ≤ z ∧ z < (n : Int)) → ¬ RowOk n r := fun hn hw => hn (hw.2.2 z hz)
      have lg := (bd z hz).log
      refine ⟨_, rfl, rfl, _, rfl, ?_⟩
      by_cases hp : z = -1
      · subst hp
        refine iteF ?_
        exact iteF ⟨_, rfl, rfl, go ⟨by omega, by omega⟩⟩
      · have e : decide (V.int z = V.int (-1)) = false := decide_eq_false (fun w => hp (by injection w))
        rw [e]
        refine iteT ?_
        refine ⟨_, rfl, _, _, rfl, rfl, _, rfl, ?_⟩
        by_cases h0 : 0 ≤ z
        · rw [decide_eq_true h0]
          refine iteT ?_
          refine ⟨_, rfl, _, _, rfl, rfl, _, rfl, ?_⟩
          by_cases h1 : z < (n : Int)
          · rw [decide_eq_true h1]
            exact iteF ⟨_, rfl, rfl, go ⟨by omega, h1⟩⟩
          · rw [decide_eq_false h1]
            refine iteT ?_
            exact ⟨⟨_, rfl, _, rfl, lg, rfl, trivial⟩, fun _ => ⟨small12 (by show 1 ≤ 100; decide), xe (bad (fun y => h1 y.2))⟩⟩
        · rw [decide_eq_false h0]
          refine iteF ?_
          refine ⟨_, rfl, ?_⟩
          refine iteT ?_
          exact ⟨⟨_, rfl, _, rfl, lg, rfl, trivial⟩, fun _ => ⟨small12 (by show 1 ≤ 100; decide), xe (bad (fun y => by omega))⟩⟩
    · rintro σ H2 ⟨x2, rfl, rfl, ih⟩
      rw [hl, List.take_of_length_le (Nat.le_refl _)] at ih
      exact q ⟨by omega, by omega, ih⟩
theorem sc_check_rows : FnScope ["rows", "row"] ["rows"] (defScope s_check_rows) := ⟨rfl, rfl, rfl, by decide +kernel, rfl, by decide +kernel, by decide +kernel⟩
theorem ok_check_rows (T : Txt K mg A) (G_check_row : FnOk P w K mg base (CX1 P w) 1 A.f_check_row A.fd_check_row ["row", "sites"] (spCheckRowX K A.c_NoExit)) : FnOk P w K mg base (CX1 P w) 2 A.f_check_rows A.fd_check_rows ["rows"] (spCheckRowsX A.c_NoSite A.c_NoExit) := by
  refine T.F_check_rows.okX sc_check_rows (fun vs H Q E h => ?_) (fun cdv A' outer s H vs Q E hr h => ?_)
  · obtain ⟨a, as, rows, rfl, _⟩ := h
    rfl
  · obtain ⟨a, as, rows, rfl, M, bd, q, xs, xe⟩ := h
    refine ⟨_, (pss_cons (ps_if (pt_not (pt_chain op_le op_le pe_int (pe_callB (call_lenK (K := K) rfl) (by rfl) T.n_len PySem.boot_len (pa_cons (pv 0) pa_nil)) (pe_glob (v := .int (12)) (by rfl) T.g_MOST_SITES ⟨_, rfl⟩)))
        (pss_one (ps_raise raises_cx rfl (by rfl) T.m_NoSite T.x_NoSite (pa_cons (pe_fs (pj_str (by decide +kernel) (pj_int (pe_glob (v := .int (12)) (by rfl) T.g_MOST_SITES ⟨_, rfl⟩) (pj_str (by decide +kernel) pj_nil))) (by decide)) pa_nil)))
        pss_nil)
      (pss_one (ps_for PassesOwn.leaving rfl (pi_listK (K := K) rfl (pv 0)) (pg_name (i := 1) sc_check_rows.nd rfl (Or.inl rfl))
        (pss_one (ps_expr (pe_call G_check_row (hr.mono (by decide)) (by rfl) T.m_check_row T.k_check_row T.b_check_row .nil passX (pa_cons (pv 1) (pa_cons (pe_callB (call_lenK (K := K) rfl) (by rfl) T.n_len PySem.boot_len (pa_cons (pv 0) pa_nil)) pa_nil)))))))), ?_⟩
    have hl := M.reflen
    refine ⟨_, rfl, _, _, rfl, .inl M.sq, _, _, rfl, rfl, _, rfl, ?_⟩
    rw [hl]
    by_cases c1 : (1 : Int) ≤ (rows.length : Int)
    case neg =>
      rw [decide_eq_false c1]
      refine iteF ?_
      refine ⟨_, rfl, ?_⟩
      refine iteT ?_
      exact ⟨⟨_, rfl, by decide, rfl, trivial⟩, fun x => ⟨small12 (by show 1 ≤ 100; decide), xs (fun y => by omega)⟩⟩
    rw [decide_eq_true c1]
    refine iteT ?_
    refine ⟨_, _, rfl, rfl, _, rfl, ?_⟩
    by_cases c2 : (rows.length : Int) ≤ 12
    case neg =>
      rw [decide_eq_false c2]
      refine iteT ?_
      exact ⟨⟨_, rfl, by decide, rfl, trivial⟩, fun x => ⟨small12 (by show 1 ≤ 100; decide), xs (fun y => by omega)⟩⟩
    rw [decide_eq_true c2]
    refine iteF ?_
    refine ⟨_, rfl, a, rfl, ⟨_, M.sq⟩, for_list (K := K) (a := a) (xs := as.map V.ref) (fun i σ H2 => ∃ x1 : Option V, σ = [some (.ref a), x1] ∧ H2 = H ∧ ∀ r ∈ rows.take i, RowOk rows.length r) ⟨none, rfl, rfl, by simp⟩ (fun i σ H2 _ ⟨_, _, e, _⟩ => by rw [e]; exact M.sq) ?_ ?_⟩
    · rintro i x σ H2 hi ⟨x1, rfl, rfl, ih⟩
      obtain ⟨c, hi', rfl, ec, hc, _⟩ := M.refs hi
      refine ⟨_, rfl, _, rfl, _, _, rfl, .inl M.sq, c, rows[i], rows.length, (by rw [hl]; rfl), SqL.of hc, bd _ (List.getElem_mem hi'), fun ok => ?_, fun no => ?_⟩
      · refine ⟨_, rfl, rfl, fun r hr' => ?_⟩
        rw [take_snoc (List.getElem?_eq_getElem hi')] at hr'
        rcases List.mem_append.mp hr' with y | y
        · exact ih r y
        · rw [List.mem_singleton.mp y]; exact ok
      · exact xe ⟨by omega, by omega⟩ (fun W => no (W.2.2 _ (List.getElem_mem hi')))
    · rintro σ H2 ⟨x1, rfl, rfl, ih⟩
      rw [hl, List.take_of_length_le (Nat.le_refl _)] at ih
      exact q ⟨by omega, by omega, ih⟩
theorem sc_Binit : FnScope ["self", "rows"] ["self", "rows"] (defScope s_Binit) := ⟨rfl, rfl, rfl, by decide +kernel, rfl, by decide +kernel, by decide +kernel⟩
theorem ok_Binit (T : Txt K mg A) (G_check_rows : FnOk P w K mg base (CX1 P w) 2 A.f_check_rows A.fd_check_rows ["rows"] (spCheckRowsX A.c_NoSite A.c_NoExit)) : FnOk P w K mg base (CX1 P w) 3 A.f_Binit A.fd_Binit ["self", "rows"] (spInitX A.C A.c_NoSite A.c_NoExit) := by
  refine T.F_Binit.okX sc_Binit (fun vs H Q E h => ?_) (fun cdv A' outer s H vs Q E hr h => ?_)
  · obtain ⟨p, dx, aH, asH, rows, rfl, _⟩ := h
    rfl
  · obtain ⟨p, dx, aH, asH, rows, rfl, hp, M, bd, q0, xs, xe⟩ := h
    refine ⟨_, (pss_cons (ps_expr (pe_call G_check_rows (hr.mono (by decide)) (by rfl) T.m_check_rows T.k_check_rows T.b_check_rows .nil passX (pa_cons (pv 1) pa_nil)))
      (pss_cons (ps_fldK (K := K) rfl (pv 0) (pe_comp (CompSc.of (N' := ["row"]) (ix := [none]) rfl (by kernel_rfl)) rfl rfl rfl rfl (pi_listK (K := K) rfl (pv 1)) (by exact fun _ _ _ _ _ => pf_nil) (by exact fun _ _ _ _ _ hI => (pe_callTy (call_listK (K := K) rfl) (by rfl) T.n_list PyProof.Rows.Boot.«list» (pa_cons (pv 0) pa_nil))) (fun _ => rfl)) rfl)
      (pss_cons (ps_fldK (K := K) rfl (pv 0) (pe_op op_rep (pe_lst (pa_cons pe_int pa_nil)) (pe_callB (call_lenK (K := K) rfl) (by rfl) T.n_len PySem.boot_len (pa_cons (pv 1) pa_nil))) rfl)
      (pss_cons (ps_fldK (K := K) rfl (pv 0) (pe_op op_rep (pe_lst (pa_cons pe_int pa_nil)) (pe_callB (call_lenK (K := K) rfl) (by rfl) T.n_len PySem.boot_len (pa_cons (pv 1) pa_nil))) rfl)
      (pss_cons (ps_fldK (K := K) rfl (pv 0) (pe_op op_rep (pe_lst (pa_cons pe_int pa_nil)) (pe_callB (call_lenK (K := K) rfl) (by rfl) T.n_len PySem.boot_len (pa_cons (pv 1) pa_nil))) rfl)
      (pss_one (ps_fldK (K := K) rfl (pv 0) pe_int rfl))))))), ?_⟩
    have hl := M.reflen
    refine ⟨_, rfl, aH, asH, rows, rfl, M, bd, fun W => ?_, xs, xe⟩
    obtain ⟨h1, h12, hrow⟩ := id W
    have q := q0 W
    refine ⟨_, rfl, aH, rfl, ⟨_, M.sq⟩, ?_⟩
    refine comp_news (ls := rows.map fun r => r.map V.int) (wk_list M.sq) (by rw [hl]; exact small12 (by omega)) (by rw [List.length_map, hl]) (fun i x l H3 ex el s3 Q' q' => ?_) (fun as H1 s1 hlen nd fr hrows aR hR => ?_)
    · obtain ⟨c, hi', rfl, ec, hc, _⟩ := M.refs ex
      rw [List.getElem?_map, List.getElem?_eq_getElem hi'] at el
      cases el
      exact ⟨_, rfl, _, _, rfl, .inl (SqL.of (s3 _ _ hc)), q'⟩
    · rw [List.length_map] at hlen
      have MR := mat_of (H := H) (R := aR) hlen nd s1 hrows hR
      have hp1 := s1 _ _ hp
      have npR : p ≠ aR := ne_of_none hp1 hR
      refine ⟨_, rfl, p, A.C, dx, [], rfl, (by rw [upd_ne npR]; exact hp1), T.cl_Board, T.na_rows, (by show 0 < 1000; decide), ?_⟩
      generalize hH2 : upd (upd H1 aR (.lst (as.map V.ref))) p (.ins A.C dx (putF "rows" (.ref aR) [])) = H2
      have e2p : H2 p = some (.ins A.C dx (putF "rows" (.ref aR) [])) := by rw [← hH2]; exact upd_same
      have e2 : ∀ c, c ≠ p → H2 c = upd H1 aR (.lst (as.map V.ref)) c := fun c hc => by rw [← hH2]; exact upd_ne hc
      have M1 : SqL K H2 aH (asH.map V.ref) := by
        have := s1 _ _ M.hd
        refine SqL.of ?_
        rw [e2 aH (ne_of M.hd hp (by intro z; cases z)), upd_ne (ne_of_none this hR)]
        exact this
      have zz : ∀ k : Nat, (List.replicate k [V.int 0]).flatten = (List.replicate k (0 : Int)).map V.int := fun k => by
        induction k with
        | zero => rfl
        | succ k ih => rw [List.replicate_succ, List.flatten_cons, ih, List.replicate_succ]; rfl
      refine ⟨small12 (by show 1 ≤ 100; decide), fun l1 hl1 => ⟨_, rfl, _, _, rfl, .inl ((same_new hl1).seq M1), l1, _, _, rfl, rfl, upd_same, by omega, by omega, by rw [hl]; exact small12 (by simp; omega), fun aT hT => ?_⟩⟩
      have nT1 : aT ≠ l1 := fun z => by rw [z, upd_same] at hT; cases hT
      rw [upd_ne nT1] at hT
      have npl : p ≠ l1 := ne_of_none e2p hl1
      have npT : p ≠ aT := ne_of_none e2p hT
      refine ⟨_, rfl, p, A.C, dx, _, rfl, (by rw [upd_ne npT, upd_ne npl]; exact e2p), T.cl_Board, T.na_turns, (by show 1 < 1000; decide), ?_⟩
      rw [hl, Int.toNat_natCast, zz]
      generalize hH3 : upd (upd (upd H2 l1 (.lst [V.int 0])) aT (.lst ((List.replicate rows.length (0 : Int)).map V.int))) p (.ins A.C dx (putF "turns" (.ref aT) (putF "rows" (.ref aR) []))) = H3
      have e3p : H3 p = some (.ins A.C dx (putF "turns" (.ref aT) (putF "rows" (.ref aR) []))) := by rw [← hH3]; exact upd_same
      have e3T : H3 aT = some (.lst ((List.replicate rows.length (0 : Int)).map V.int)) := by rw [← hH3, upd_ne (Ne.symm npT)]; exact upd_same
      have e3 : ∀ c o, c ≠ p → H2 c = some o → H3 c = some o := fun c o hc e => by
        rw [← hH3, upd_ne hc, upd_ne (ne_of_none e hT), upd_ne (ne_of_none e hl1)]
        exact e
      have f3 : ∀ c, H3 c = none → H2 c = none := fun c e => by
        cases q : H2 c with
        | none => rfl
        | some o =>
          by_cases hc : c = p
          · rw [hc, e3p] at e; cases e
          · rw [e3 c o hc q] at e; cases e
      have M3 : H3 aH = some (.lst (asH.map V.ref)) := by
        rcases M1 with (m | ⟨o, m⟩) | m
        · exact e3 _ _ (ne_of M.hd hp (by intro z; cases z)) m
        · have := s1 _ _ M.hd
          rw [e2 aH (ne_of M.hd hp (by intro z; cases z)), upd_ne (ne_of_none this hR), this] at m
          cases m
        · have := s1 _ _ M.hd
          refine e3 _ _ (ne_of M.hd hp (by intro z; cases z)) ?_
          rw [e2 aH (ne_of M.hd hp (by intro z; cases z)), upd_ne (ne_of_none this hR)]
          exact this
      refine ⟨small12 (by show 1 ≤ 100; decide), fun l2 hl2 => ⟨_, rfl, _, _, rfl, .inl (SqL.of (same_new hl2 _ _ M3)), l2, _, _, rfl, rfl, upd_same, by omega, by omega, by rw [hl]; exact small12 (by simp; omega), fun aL hL => ?_⟩⟩
      have nL2 : aL ≠ l2 := fun z => by rw [z, upd_same] at hL; cases hL
      rw [upd_ne nL2] at hL
      have npl2 : p ≠ l2 := ne_of_none e3p hl2
      have npL : p ≠ aL := ne_of_none e3p hL
      refine ⟨_, rfl, p, A.C, dx, _, rfl, (by rw [upd_ne npL, upd_ne npl2]; exact e3p), T.cl_Board, T.na_loads, (by show 2 < 1000; decide), ?_⟩
      rw [hl, Int.toNat_natCast, zz]
      generalize hH4 : upd (upd (upd H3 l2 (.lst [V.int 0])) aL (.lst ((List.replicate rows.length (0 : Int)).map V.int))) p (.ins A.C dx (putF "loads" (.ref aL) (putF "turns" (.ref aT) (putF "rows" (.ref aR) [])))) = H4
      have e4p : H4 p = some (.ins A.C dx (putF "loads" (.ref aL) (putF "turns" (.ref aT) (putF "rows" (.ref aR) [])))) := by rw [← hH4]; exact upd_same
      have e4L : H4 aL = some (.lst ((List.replicate rows.length (0 : Int)).map V.int)) := by rw [← hH4, upd_ne (Ne.symm npL)]; exact upd_same
      have e4 : ∀ c o, c ≠ p → H3 c = some o → H4 c = some o := fun c o hc e => by
        rw [← hH4, upd_ne hc, upd_ne (ne_of_none e hL), upd_ne (ne_of_none e hl2)]
        exact e
      have f4 : ∀ c, H4 c = none → H3 c = none := fun c e => by
        cases q : H3 c with
        | none => rfl
        | some o =>
          by_cases hc : c = p
          · rw [hc, e4p] at e; cases e
          · rw [e4 c o hc q] at e; cases e
      have npH : aH ≠ p := ne_of M.hd hp (by intro z; cases z)
      have M4 := e4 _ _ npH M3
      refine ⟨small12 (by show 1 ≤ 100; decide), fun l3 hl3 => ⟨_, rfl, _, _, rfl, .inl (SqL.of (same_new hl3 _ _ M4)), l3, _, _, rfl, rfl, upd_same, by omega, by omega, by rw [hl]; exact small12 (by simp; omega), fun aS hS => ?_⟩⟩
      have nS3 : aS ≠ l3 := fun z => by rw [z, upd_same] at hS; cases hS
      rw [upd_ne nS3] at hS
      have npl3 : p ≠ l3 := ne_of_none e4p hl3
      have npS : p ≠ aS := ne_of_none e4p hS
      refine ⟨_, rfl, p, A.C, dx, _, rfl, (by rw [upd_ne npS, upd_ne npl3]; exact e4p), T.cl_Board, T.na_steps, (by show 3 < 1000; decide), ?_⟩
      rw [hl, Int.toNat_natCast, zz]
      refine ⟨_, rfl, p, A.C, dx, _, rfl, upd_same, T.cl_Board, T.na_taken, (by show 4 < 1000; decide), ?_⟩
      rw [upd_upd]
      rw [bflds_mk]
      generalize hH5 : upd (upd (upd H4 l3 (.lst [V.int 0])) aS (.lst ((List.replicate rows.length (0 : Int)).map V.int))) p (.ins A.C dx (bflds aR aT aL aS 0)) = H5
      have e5p : H5 p = some (.ins A.C dx (bflds aR aT aL aS 0)) := by rw [← hH5]; exact upd_same
      have e5S : H5 aS = some (.lst ((List.replicate rows.length (0 : Int)).map V.int)) := by rw [← hH5, upd_ne (Ne.symm npS)]; exact upd_same
      have e5 : ∀ c o, c ≠ p → H4 c = some o → H5 c = some o := fun c o hc e => by
        rw [← hH5, upd_ne hc, upd_ne (ne_of_none e hS), upd_ne (ne_of_none e hl3)]
        exact e
      have up : ∀ c o, c ≠ p → upd H1 aR (.lst (as.map V.ref)) c = some o → H5 c = some o := fun c o hc e => e5 c o hc (e4 c o hc (e3 c o hc (by rw [e2 c hc]; exact e)))
      have e5T : H5 aT = some (.lst ((List.replicate rows.length (0 : Int)).map V.int)) := e5 _ _ (Ne.symm npT) (e4 _ _ (Ne.symm npT) e3T)
      have e5L : H5 aL = some (.lst ((List.replicate rows.length (0 : Int)).map V.int)) := e5 _ _ (Ne.symm npL) e4L
      have pas : ∀ c ∈ aR :: as, c ≠ p := fun c hc z => by
        rcases List.mem_cons.mp hc with h | h
        · exact npR (by rw [← z, h])
        · have := fr c h
          rw [z, hp] at this
          cases this
      have MR5 : Mat H5 aR as rows := MR.keep fun c o hc e => up c o (pas c hc) e
      have hn2 : ∀ c, H2 c = none → c ∉ aR :: as := fun c e hc => by
        rw [e2 c (pas c hc)] at e
        rcases List.mem_cons.mp hc with z | z
        · rw [z, upd_same] at e; cases e
        · obtain ⟨i, hi, ei⟩ := List.getElem_of_mem z
          obtain ⟨c', ec1, ec2, _⟩ := MR.get (i := i) (by rw [← hlen]; exact hi)
          rw [List.getElem?_eq_getElem hi, ei] at ec1
          cases ec1
          rw [ec2] at e; cases e
      have nLT : aL ≠ aT := fun z => by rw [z, e3T] at hL; cases hL
      have nST : aS ≠ aT := fun z => by rw [z, e4 _ _ (Ne.symm npT) e3T] at hS; cases hS
      have nSL : aS ≠ aL := fun z => by rw [z, e4L] at hS; cases hS
      have tH : ∀ c, H2 c = none → H c = none := fun c e => by
        cases q' : H c with
        | none => rfl
        | some o =>
          exfalso
          by_cases hc : c = p
          · rw [hc, e2p] at e; cases e
          · have := s1 _ _ q'
            rw [e2 c hc, upd_ne (ne_of_none this hR), this] at e
            cases e
      have nd5 : (p :: aT :: aL :: aS :: aR :: as).Nodup := by
        have x1 := hn2 aT hT
        have x2 := hn2 aL (f3 aL hL)
        have x3 := hn2 aS (f3 aS (f4 aS hS))
        simp only [List.nodup_cons, List.mem_cons, not_or] at x1 x2 x3 ⊢
        have y := MR.nd
        simp only [List.nodup_cons] at y
        refine ⟨⟨npT, npL, npS, npR, fun z => pas p (List.mem_cons_of_mem _ z) rfl⟩, ⟨Ne.symm nLT, Ne.symm nST, x1.1, x1.2⟩, ⟨Ne.symm nSL, x2.1, x2.2⟩, ⟨x3.1, x3.2⟩, y.1, y.2⟩
      refine q aR as aT aL aS H5 ⟨e5p, MR5, e5T, e5L, e5S, nd5⟩ (fun c o e hc => ?_) (fun c hc => ?_)
      · have := s1 _ _ e
        exact up c o hc (by rw [upd_ne (ne_of_none this hR)]; exact this)
      · simp only [List.mem_cons] at hc
        rcases hc with z | z | z | z | z
        · rw [z]; exact tH _ hT
        · rw [z]; exact tH _ (f3 _ hL)
        · rw [z]; exact tH _ (f3 _ (f4 _ hS))
        · rw [z]; exact s1.free hR
        · exact fr c z
theorem sc_check_site : FnScope ["board", "at"] ["board", "at"] (defScope s_check_site) := ⟨rfl, rfl, rfl, by decide +kernel, rfl, by decide +kernel, by decide +kernel⟩
theorem ok_check_site (T : Txt K mg A) : FnOk P w K mg base (CX1 P w) 1 A.f_check_site A.fd_check_site ["board", "at"] (spSite A.C A.c_NoSite) := by
  refine T.F_check_site.okX sc_check_site (fun vs H Q E h => ?_) (fun cdv A' outer s H vs Q E hr h => ?_)
  · obtain ⟨p, dx, aR, as, aT, aL, aS, b, z, rfl, _⟩ := h
    rfl
  · obtain ⟨p, dx, aR, as, aT, aL, aS, b, z, rfl, B, z1, z2, q1, q2⟩ := h
    refine ⟨_, (pss_one (ps_if (pt_not (pt_chain op_le op_lt pe_int (pv 1) (pe_callB (call_lenK (K := K) rfl) (by rfl) T.n_len PySem.boot_len (pa_cons (pe_fldK (K := K) rfl (pv 0) rfl) pa_nil))))
        (pss_one (ps_raise raises_cx rfl (by rfl) T.m_NoSite T.x_NoSite (pa_cons (pe_fs (pj_str (by decide +kernel) (pj_int (pv 1) pj_nil)) (by decide)) pa_nil)))
        pss_nil)), ?_⟩
    have l1 := B.mat.reflen
    have lg := log2_small z1 z2
    refine ⟨_, rfl, _, _, rfl, rfl, _, rfl, ?_⟩
    by_cases h0 : 0 ≤ z
    · rw [decide_eq_true h0]
      refine iteT ?_
      refine ⟨_, rfl, p, A.C, dx, _, _, rfl, B.ob, T.cl_Board, T.na_rows, bf_rows _ _ _ _ _, _, _, rfl, .inl B.mat.sq, _, _, rfl, rfl, _, rfl, ?_⟩
      rw [l1]
      by_cases h1 : z < (b.rows.length : Int)
      · rw [decide_eq_true h1]
        exact iteF (q1 ⟨h0, h1⟩)
      · rw [decide_eq_false h1]
        refine iteT ?_
        exact ⟨⟨_, rfl, _, rfl, lg, rfl, trivial⟩, fun x => ⟨small12 (by show 1 ≤ 100; decide), q2 (fun w => h1 w.2)⟩⟩
    · rw [decide_eq_false h0]
      refine iteF ?_
      refine ⟨_, rfl, ?_⟩
      refine iteT ?_
      exact ⟨⟨_, rfl, _, rfl, lg, rfl, trivial⟩, fun x => ⟨small12 (by show 1 ≤ 100; decide), q2 (fun w => h0 w.1)⟩⟩
theorem sc_Bturn_to : FnScope ["self", "at", "place"] ["self", "at", "place"] (defScope s_Bturn_to) := ⟨rfl, rfl, rfl, by decide +kernel, rfl, by decide +kernel, by decide +kernel⟩
theorem ok_Bturn_to (T : Txt K mg A) (G_check_site : FnOk P w K mg base (CX1 P w) 1 A.f_check_site A.fd_check_site ["board", "at"] (spSite A.C A.c_NoSite)) : FnOk P w K mg base (CX1 P w) 2 A.f_Bturn_to A.fd_Bturn_to ["self", "at", "place"] (spTurn A.C A.c_NoSite A.c_NoPlace) := by
  refine T.F_Bturn_to.okX sc_Bturn_to (fun vs H Q E h => ?_) (fun cdv A' outer s H vs Q E hr h => ?_)
  · obtain ⟨p, dx, aR, as, aT, aL, aS, b, z, y, rfl, _⟩ := h
    rfl
  · obtain ⟨p, dx, aR, as, aT, aL, aS, b, z, y, rfl, B, hl, z1, z2, y1, y2, q1, q2, q3⟩ := h
    refine ⟨_, (pss_cons (ps_expr (pe_call G_check_site (hr.mono (by decide)) (by rfl) T.m_check_site T.k_check_site T.b_check_site .nil passX (pa_cons (pv 0) (pa_cons (pv 1) pa_nil))))
      (pss_cons (ps_if (pt_not (pt_chain op_le op_lt pe_int (pv 2) (pe_callB (call_lenK (K := K) rfl) (by rfl) T.n_len PySem.boot_len (pa_cons (pe_ix (ix_listK (K := K) rfl) (pe_fldK (K := K) rfl (pv 0) rfl) (pv 1) (fun _ _ => rfl)) pa_nil))))
        (pss_one (ps_raise raises_cx rfl (by rfl) T.m_NoPlace T.x_NoPlace (pa_cons (pe_fs (pj_str (by decide +kernel) (pj_int (pv 1) (pj_str (by decide +kernel) (pj_int (pv 2) pj_nil)))) (by decide)) pa_nil)))
        pss_nil)
      (pss_one (ps_asg (pv 2) (pg_sub (pe_fldK (K := K) rfl (pv 0) rfl) (pv 1) set_list))))), ?_⟩
    have lg := log2_small z1 z2
    have lgy := y1.log
    refine ⟨_, rfl, _, rfl, p, dx, aR, as, aT, aL, aS, b, z, rfl, B, z1, z2, fun hz => ?_, q1⟩
    obtain ⟨c, hat, hc, _⟩ := B.mat.at hz.1 hz.2
    have hlr : ((b.rows.getD z.toNat []).map V.int).length = (b.rows.getD z.toNat []).length := by simp
    refine ⟨_, rfl, _, _, rfl, rfl, _, rfl, ?_⟩
    by_cases h0 : 0 ≤ y
    · rw [decide_eq_true h0]
      refine iteT ?_
      refine ⟨_, rfl, p, A.C, dx, _, _, rfl, B.ob, T.cl_Board, T.na_rows, bf_rows _ _ _ _ _, _, rfl, _, _, _, _, rfl, rfl, B.mat.sq, hat, _, _, rfl, .inl (SqL.of hc), _, _, rfl, rfl, _, rfl, ?_⟩
      rw [hlr]
      by_cases h1 : y < ((b.rows.getD z.toNat []).length : Int)
      · rw [decide_eq_true h1]
        refine iteF ?_
        refine ⟨_, rfl, _, rfl, p, A.C, dx, _, _, rfl, B.ob, T.cl_Board, T.na_turns, bf_turns _ _ _ _ _, _, rfl, aT, _, _, _, rfl, rfl, B.hT, ixN_in hz.1 (by rw [List.length_map, hl]; exact hz.2), ?_⟩
        rw [map_set_int]
        exact q3 hz ⟨h0, h1⟩
      · rw [decide_eq_false h1]
        refine iteT ?_
        exact ⟨⟨_, rfl, _, rfl, lg, rfl, _, rfl, _, rfl, lgy, rfl, trivial⟩, fun x => ⟨small12 (by show 1 ≤ 100; decide), q2 hz (fun w => h1 w.2)⟩⟩
    · rw [decide_eq_false h0]
      refine iteF ?_
      refine ⟨_, rfl, ?_⟩
      refine iteT ?_
      exact ⟨⟨_, rfl, _, rfl, lg, rfl, _, rfl, _, rfl, lgy, rfl, trivial⟩, fun x => ⟨small12 (by show 1 ≤ 100; decide), q2 hz (fun w => h0 w.1)⟩⟩
theorem sc_Bload : FnScope ["self", "at", "many"] ["self", "at", "many"] (defScope s_Bload) := ⟨rfl, rfl, rfl, by decide +kernel, rfl, by decide +kernel, by decide +kernel⟩
theorem ok_Bload (T : Txt K mg A) (G_check_site : FnOk P w K mg base (CX1 P w) 1 A.f_check_site A.fd_check_site ["board", "at"] (spSite A.C A.c_NoSite)) : FnOk P w K mg base (CX1 P w) 2 A.f_Bload A.fd_Bload ["self", "at", "many"] (spLoad A.C A.c_NoSite A.c_TooMany) := by
  refine T.F_Bload.okX sc_Bload (fun vs H Q E h => ?_) (fun cdv A' outer s H vs Q E hr h => ?_)
  · obtain ⟨p, dx, aR, as, aT, aL, aS, b, z, y, rfl, _⟩ := h
    rfl
  · obtain ⟨p, dx, aR, as, aT, aL, aS, b, z, y, rfl, B, hl, z1, z2, q1, q2, q3⟩ := h
    refine ⟨_, (pss_cons (ps_expr (pe_call G_check_site (hr.mono (by decide)) (by rfl) T.m_check_site T.k_check_site T.b_check_site .nil passX (pa_cons (pv 0) (pa_cons (pv 1) pa_nil))))
      (pss_cons (ps_if (pt_cmpR op_gt (pe_op op_add (pe_callB (call_sumK (K := K) rfl rfl) (by rfl) T.n_sum PyProof.Rows.Boot.«sum» (pa_cons (pe_fldK (K := K) rfl (pv 0) rfl) pa_nil)) (pv 2)) (pe_glob (v := .int (400)) (by rfl) T.g_MOST_MARBLES ⟨_, rfl⟩) (nomark _))
        (pss_one (ps_raise raises_cx rfl (by rfl) T.m_TooMany T.x_TooMany (pa_cons (pe_fs (pj_str (by decide +kernel) (pj_int (pe_glob (v := .int (400)) (by rfl) T.g_MOST_MARBLES ⟨_, rfl⟩) (pj_str (by decide +kernel) pj_nil))) (by decide)) pa_nil)))
        pss_nil)
      (pss_one (ps_augS (pe_fldK (K := K) rfl (pv 0) rfl) (pv 1) (get_listK (K := K) rfl) (pv 2) ip_add set_list)))), ?_⟩
    refine ⟨_, rfl, _, rfl, p, dx, aR, as, aT, aL, aS, b, z, rfl, B, z1, z2, fun hz => ?_, q1⟩
    refine ⟨_, rfl, p, A.C, dx, _, _, rfl, B.ob, T.cl_Board, T.na_loads, bf_loads _ _ _ _ _, aL, b.loads, rfl, SqL.of B.hL, _, rfl, _, _, rfl, rfl, _, _, rfl, rfl, _, rfl, ?_⟩
    by_cases hs : (400 : Int) < b.loads.sum + y
    · rw [decide_eq_true hs]
      refine iteT ?_
      exact ⟨⟨_, rfl, by decide, rfl, trivial⟩, fun x => ⟨small12 (by show 1 ≤ 100; decide), q2 hz hs⟩⟩
    · rw [decide_eq_false hs]
      refine iteF ?_
      have hz' : z < (b.loads.length : Int) := by rw [hl]; exact hz.2
      refine ⟨_, rfl, p, A.C, dx, _, _, rfl, B.ob, T.cl_Board, T.na_loads, bf_loads _ _ _ _ _, _, rfl, _, _, _, _, rfl, rfl, SqL.of B.hL, at_ints hz.1 hz', _, rfl, _, _, rfl, rfl, aL, _, _, _, rfl, rfl, B.hL, ixN_in hz.1 (by rw [List.length_map]; exact hz'), ?_⟩
      rw [map_set_int]
      exact q3 hz (by omega)
theorem sc_told : FnScope ["rows", "numbers", "board", "at", "of_site"] ["rows", "numbers"] (defScope s_told) := ⟨rfl, rfl, rfl, by decide +kernel, rfl, by decide +kernel, by decide +kernel⟩
theorem ok_told (T : Txt K mg A) (G_i_Board : FnOk P w K mg base (CX1 P w) 3 A.f_Binit A.fd_Binit ["self", "rows"] (spInitX A.C A.c_NoSite A.c_NoExit)) (G_turn_to : FnOk P w K mg base (CX1 P w) 2 A.f_Bturn_to A.fd_Bturn_to ["self", "at", "place"] (spTurn A.C A.c_NoSite A.c_NoPlace)) (G_load : FnOk P w K mg base (CX1 P w) 2 A.f_Bload A.fd_Bload ["self", "at", "many"] (spLoad A.C A.c_NoSite A.c_TooMany)) : FnOk P w K mg base (CX1 P w) 5 A.f_told A.fd_told ["rows", "numbers"] (spTldX A) := by
  refine T.F_told.okX sc_told (fun vs H Q E h => ?_) (fun cdv A' outer s H vs Q E hr h => ?_)
  · obtain ⟨R, N, as, ns, b, rfl, _⟩ := h
    rfl
  · obtain ⟨R, N, as, ns, b, rfl, M, MN, PR, q, xe⟩ := h
    refine ⟨_, (pss_cons (ps_set (i := 2) sc_told.nd rfl (Or.inl rfl) (pe_make T.mk_Board G_i_Board (hr.mono (by decide)) (by rfl) T.m_Board T.bi_Board .nil passX (pa_cons (pv 0) pa_nil)))
      (pss_cons (ps_for PassesOwn.leaving rfl (pi_enum (K := K) rfl (by rfl) T.n_enumerate (pa_cons (pv 1) pa_nil)) (pg_tup rfl (pgs_cons (pg_name (i := 3) sc_told.nd rfl (Or.inl rfl)) (pgs_cons (pg_name (i := 4) sc_told.nd rfl (Or.inl rfl)) pgs_nil)))
        (pss_cons (ps_expr (pe_meth (pv 2) T.cl_Board T.mt_turn_to G_turn_to (hr.mono (by decide)) T.bm_turn_to .nil passX (pa_cons (pv 3) (pa_cons (pe_ix (ix_listK (K := K) rfl) (pv 4) pe_int (fun _ _ => rfl)) pa_nil))))
        (pss_cons (ps_expr (pe_meth (pv 2) T.cl_Board T.mt_load G_load (hr.mono (by decide)) T.bm_load .nil passX (pa_cons (pv 3) (pa_cons (pe_ix (ix_listK (K := K) rfl) (pv 4) pe_int (fun _ _ => rfl)) pa_nil))))
        (pss_one (ps_asg (pe_ix (ix_listK (K := K) rfl) (pv 4) pe_int (fun _ _ => rfl)) (pg_sub (pe_fldK (K := K) rfl (pv 2) rfl) (pv 3) set_list))))))
      (pss_one (ps_ret (pv 2))))), ?_⟩
    have hnl : (numsB b).length = b.rows.length := by unfold numsB; simp
    have tl := PR.t
    have ll := PR.l
    have sl := PR.s
    refine ⟨_, rfl, ?_⟩
    intro p dx hp hdx hne
    have s0 : ∀ o o', Same H (upd (upd H dx o) p o') := fun _ _ => same_upd (same_new hdx) hp
    refine ⟨p, dx, R, as, b.rows, rfl, upd_same, M.same (same_upd (same_new hdx) hp), PR.r, fun W aR asB aT aL aS H4 B kp frB => ⟨rfl, ?_⟩, fun z => xe (fun F => z ⟨F.1.1, F.1.2.1⟩) _ _ (.inl rfl) (s0 _ _), fun _ z => xe (fun F => z F.1) _ _ (.inr (.inl rfl)) (s0 _ _)⟩
    obtain ⟨w1, w12, wr⟩ := id W
    have s4 : Same H H4 := made_same hp hdx kp
    have fr4 : ∀ c ∈ p :: aT :: aL :: aS :: aR :: asB, H c = none := fun c hc => by
      rcases List.mem_cons.mp hc with z | z
      · rw [z]; exact hp
      · exact made_none (frB c z)
    refine ⟨_, rfl, N, _, rfl, (MN.same s4).sq, ?_⟩
    refine for_enumN (fun i σ H2 => ∃ x3 x4 : Option V, σ = [some (.ref R), some (.ref N), some (.ref p), x3, x4] ∧ BoardAt A.C H2 p dx aR asB aT aL aS ⟨b.rows, part b.turns b.rows.length i, part b.loads b.rows.length i, part b.steps b.rows.length i, 0⟩ ∧ Same H H2 ∧ (∀ k, k < i → b.turns.getD k 0 < ((b.rows.getD k []).length : Int)) ∧ (b.loads.take i).sum ≤ 400) ⟨none, none, rfl, ?_, s4, fun k h => absurd h (Nat.not_lt_zero _), (by show (0 : Int) ≤ 400; decide)⟩ (fun i σ H2 _ ⟨_, _, _, _, s, _⟩ => (MN.same s).sq) ?_ ?_
    · rw [part_zero, part_zero, part_zero]
      exact B
    · rintro i x σ H2 c hx ⟨x3, x4, rfl, B2, s5, ht, hs⟩ hc D2 hD2
      obtain ⟨d, hi', rfl, ed, hd, _⟩ := MN.refs hx
      have hi : i < b.rows.length := by rw [← hnl]; exact hi'
      have en : (numsB b)[i] = [b.turns.getD i 0, b.loads.getD i 0, b.steps.getD i 0] := by simp [numsB]
      rw [en] at hd
      have s6 : Same H (upd H2 c (.tup [.int (i : Int), .ref d])) := same_upd s5 (s5.free hc)
      have B6 := B2.same (same_new hc (o := .tup [.int (i : Int), .ref d]))
      refine ⟨c, _, rfl, SqT.of upd_same, rfl, _, _, rfl, _, _, rfl, rfl, ?_⟩
      generalize upd H2 c (.tup [.int (i : Int), .ref d]) = H6 at s6 B6
      have nt := PR.nt i
      refine ⟨_, rfl, p, dx, _, rfl, B6.ob, (by rfl), _, rfl, _, rfl, _, _, _, _, rfl, rfl, SqL.of (s6 _ _ hd), at_list (n := 0) rfl rfl, p, dx, aR, asB, aT, aL, aS, _, (i : Int), b.turns.getD i 0, rfl, B6, (by show (part b.turns b.rows.length i).length = b.rows.length; exact part_len tl (by omega)), by omega, by omega, nt.sm, trivial, ?_⟩
      rw [Int.toNat_natCast]
      refine ⟨fun z => absurd ⟨by omega, by show _ < (b.rows.length : Int); omega⟩ z, fun _ z => xe (fun F => z ⟨nt.1, F.2.1 i hi⟩) _ _ (.inr (.inr (.inl rfl))) s6, fun _ z6 => ?_⟩
      have z6' : b.turns.getD i 0 < ((b.rows.getD i []).length : Int) := z6.2
      show _
      have B7 := B6.setT ((part b.turns b.rows.length i).set i (b.turns.getD i 0))
      rw [part_set tl hi] at B7
      dsimp only
      rw [part_set tl hi]
      have s7 : Same H (upd H6 aT (.lst ((part b.turns b.rows.length (i + 1)).map V.int))) := same_upd s6 (fr4 aT (by simp))
      generalize upd H6 aT (.lst ((part b.turns b.rows.length (i + 1)).map V.int)) = H7 at s7 B7
      refine ⟨_, rfl, p, dx, _, rfl, B7.ob, (by rfl), _, rfl, _, rfl, _, _, _, _, rfl, rfl, SqL.of (s7 _ _ hd), at_list (n := 1) rfl rfl, p, dx, aR, asB, aT, aL, aS, _, (i : Int), b.loads.getD i 0, rfl, B7, (by show (part b.loads b.rows.length i).length = b.rows.length; exact part_len ll (by omega)), by omega, by omega, fun z => absurd ⟨by omega, by show _ < (b.rows.length : Int); omega⟩ z, fun _ z => ?_, fun _ z7 => ?_⟩
      · refine xe (fun F => ?_) _ _ (.inr (.inr (.inr rfl))) s7
        have z' : 400 < (part b.loads b.rows.length i).sum + b.loads.getD i 0 := z
        rw [part_sum, ← take_sum_succ (by omega)] at z'
        have := take_sum_le (fun i => (PR.nl i).1) (i + 1)
        have := F.2.2
        omega
      have z7' : (part b.loads b.rows.length i).sum + b.loads.getD i 0 ≤ 400 := z7
      rw [part_sum, ← take_sum_succ (by omega)] at z7'
      rw [Int.toNat_natCast]
      dsimp only
      rw [part_get ll hi, Int.zero_add (b.loads.getD i 0), part_set ll hi]
      have B8 := B7.setL (part b.loads b.rows.length (i + 1))
      have s8 : Same H (upd H7 aL (.lst ((part b.loads b.rows.length (i + 1)).map V.int))) := same_upd s7 (fr4 aL (by simp))
      generalize upd H7 aL (.lst ((part b.loads b.rows.length (i + 1)).map V.int)) = H8 at s8 B8
      have hsl : (part b.steps b.rows.length i).length = b.rows.length := part_len sl (by omega)
      refine ⟨_, rfl, _, _, _, _, rfl, rfl, SqL.of (s8 _ _ hd), at_list (n := 2) rfl rfl, _, rfl, p, A.C, dx, _, _, rfl, B8.ob, T.cl_Board, T.na_steps, bf_steps _ _ _ _ _, _, rfl, aS, _, _, _, rfl, rfl, B8.hS, ixN_in (by omega) (by rw [List.length_map, hsl]; omega), ?_⟩
      rw [map_set_int, Int.toNat_natCast]
      dsimp only
      rw [part_set sl hi]
      refine hD2 _ _ ⟨_, _, rfl, B8.setS _, same_upd s8 (fr4 aS (by simp)), fun k hk => ?_, z7'⟩
      rcases Nat.lt_succ_iff_lt_or_eq.mp hk with h | h
      · exact ht k h
      · rw [h]; exact z6'
    · rintro σ H2 ⟨x3, x4, rfl, B2, s5, ht, hs⟩
      have ek : (ns.map V.ref).length = b.rows.length := by rw [List.length_map, MN.len, hnl]
      rw [ek, part_all tl, part_all ll, part_all sl] at B2
      rw [ek] at ht hs
      rw [List.take_of_length_le (by omega)] at hs
      refine ⟨_, rfl, q ⟨W, ht, hs⟩ p dx aR asB aT aL aS H2 ?_ s5 fr4⟩
      have eb : b = ⟨b.rows, b.turns, b.loads, b.steps, 0⟩ := by rw [← PR.k]
      rw [eb]
      exact B2
theorem sc_read : FnScope ["text", "lines", "taken", "numbers", "rows", "board", "refusal"] ["text"] (defScope s_read) := ⟨rfl, rfl, rfl, by decide +kernel, rfl, by decide +kernel, by decide +kernel⟩
theorem ok_read (T : Txt K mg A) (G_read_head : FnOk P w K mg base (CX1 P w) 2 A.f_read_head A.fd_read_head ["words"] (spRdHx K A.c_NoBoard)) (G_read_numbers : FnOk P w K mg base (CX1 P w) 2 A.f_read_numbers A.fd_read_numbers ["words"] (spRdSx K A.c_NoBoard)) (G_read_row : FnOk P w K mg base (CX1 P w) 3 A.f_read_row A.fd_read_row ["words"] (spRdRx K A.c_NoBoard)) (G_told : FnOk P w K mg base (CX1 P w) 5 A.f_told A.fd_told ["rows", "numbers"] (spTldX A)) : FnOk P w K mg base (CX1 P w) 6 A.f_read A.fd_read ["text"] (spReadX A) := by
  refine T.F_read.okX sc_read (fun vs H Q E h => ?_) (fun cdv A' outer s H vs Q E hr h => ?_)
  · obtain ⟨z, rfl, _⟩ := h
    rfl
  · obtain ⟨z, rfl, Az, q, xe⟩ := h
    have lz := Az.l
    have sp10 := Az.split 10
    refine ⟨_, (pss_cons (ps_setComp (i := 1) sc_read.nd rfl rfl (CompSc.of (N' := ["line"]) (ix := [none]) rfl (by kernel_rfl)) rfl rfl rfl rfl (pi_listK (K := K) rfl (pe_bm PySem.F.plainAttrs_str PySem.F.slot_str_split PySem.F.type_str_split mt_split (pv 0) (pa_cons pe_str pa_nil))) (by exact fun _ _ _ _ _ => pf_nil) (by exact fun _ _ _ _ _ hI => (pe_bmC (K := K) rfl PySem.F.plainAttrs_str PySem.F.slot_str_split PySem.F.type_str_split mt_split (pv 0) (pa_cons pe_str pa_nil))))
      (pss_cons (ps_set (i := 2) sc_read.nd rfl (Or.inl rfl) (pe_call G_read_head (hr.mono (by decide)) (by rfl) T.m_read_head T.k_read_head T.b_read_head .nil passX (pa_cons (pe_ix (ix_listK (K := K) rfl) (pv 1) pe_int (fun _ _ => rfl)) pa_nil)))
      (pss_cons (ps_setComp (i := 3) sc_read.nd rfl rfl (CompSc.of (N' := ["words"]) (ix := [none]) rfl (by kernel_rfl)) rfl rfl rfl rfl (pi_listK (K := K) rfl (pe_slice (sl_listK (K := K) rfl) (pv 1) (po_some pe_int) po_none)) (by exact fun _ _ _ _ _ => pf_nil) (by exact fun _ _ _ _ _ hI => (pe_call G_read_numbers (hr.mono (by decide)) (by rfl) T.m_read_numbers T.k_read_numbers T.b_read_numbers .nil (passC hI) (pa_cons (pv 0) pa_nil))))
      (pss_cons (ps_setComp (i := 4) sc_read.nd rfl rfl (CompSc.of (N' := ["words"]) (ix := [none]) rfl (by kernel_rfl)) rfl rfl rfl rfl (pi_listK (K := K) rfl (pe_slice (sl_listK (K := K) rfl) (pv 1) (po_some pe_int) po_none)) (by exact fun _ _ _ _ _ => pf_nil) (by exact fun _ _ _ _ _ hI => (pe_call G_read_row (hr.mono (by decide)) (by rfl) T.m_read_row T.k_read_row T.b_read_row .nil (passC hI) (pa_cons (pv 0) pa_nil))))
      (pss_cons (ps_tryA (i := 5) rfl rfl sc_read.nd rfl (Or.inl rfl) (px_call G_told (hr.mono (by decide)) (by rfl) T.m_told T.k_told T.b_told (pa_cons (pv 4) (pa_cons (pv 3) pa_nil)))
        (ph_from rfl rfl leavesH_cx sc_read.nd (i := 6) rfl rfl (.inl rfl) (by rfl) T.m_BoardError T.kb_BoardError (by rfl) T.m_NoBoard T.x_NoBoard (by exact fun _ => (pa_cons pe_str pa_nil)) ph_nil))
      (pss_cons (ps_fldK (K := K) rfl (pv 5) (pv 2) rfl)
      (pss_one (ps_ret (pv 5))))))))), ?_⟩
    refine ⟨_, rfl, rfl, z, 10, rfl, congrArg (fun x => [V.str x]) nl_is, size_of (by omega), fun l0 hl0 => ?_⟩
    obtain ⟨spA, spL⟩ := sp10
    change ∀ w ∈ lns z, Asc 20000 w at spA
    change (lns z).length ≤ 20000 + 1 at spL
    show _
    have s0 : Same H (upd H l0 (.lst ((lns z).map V.str))) := same_new hl0
    have e0 : (upd H l0 (.lst ((lns z).map V.str))) l0 = some (.lst ((lns z).map V.str)) := upd_same
    refine ⟨l0, rfl, ⟨_, SqL.of upd_same⟩, ?_⟩
    show CompW _ _ _ _ _ _ (upd H l0 (.lst ((lns z).map V.str)))
    generalize upd H l0 (.lst ((lns z).map V.str)) = H0 at s0 e0
    refine comp_news (ls := (lns z).map fun x => (spl x).map V.str) (wk_list (K := K) (SqL.of e0)) (by rw [List.length_map]; exact size_of (by omega)) (by simp) (fun i x l H3 ex el s3 Q' q' => ?_) (fun as H1 s1 hlen nd fr hrow D hD => ?_)
    · rw [List.getElem?_map] at ex el
      cases er : (lns z)[i]? with
      | none => rw [er] at ex; cases ex
      | some y =>
        rw [er] at ex el
        cases ex
        cases el
        have ly := (spA y (List.mem_of_getElem? er)).l
        exact ⟨_, rfl, rfl, y, 32, rfl, congrArg (fun x => [V.str x]) sp_is, size_of (by omega), q'⟩
    rw [List.length_map] at hlen
    have ez : lns z = (lns z).headD Str.empty :: (lns z).tail := headD_tail (lns_ne z)
    have hA0 : Asc 20000 ((lns z).headD Str.empty) := spA _ (by rw [ez]; exact List.mem_cons_self)
    have hAt : ∀ ln ∈ (lns z).tail, Asc 20000 ln := fun ln hl => spA ln (List.mem_of_mem_tail hl)
    generalize hh0 : (lns z).headD Str.empty = h0 at ez hA0
    generalize htl : (lns z).tail = tl at ez hAt
    have htl20 : tl.length ≤ 20000 := by rw [ez] at spL; simpa using spL
    obtain ⟨a0, as', rfl⟩ : ∃ a0 as', as = a0 :: as' := by
      cases as with
      | nil => rw [ez] at hlen; cases hlen
      | cons a0 as' => exact ⟨a0, as', rfl⟩
    have hlen' : as'.length = tl.length := by rw [ez] at hlen; simpa using hlen
    have s1' : Same H1 (upd H1 D (.lst ((a0 :: as').map V.ref))) := same_new hD
    have eD : (upd H1 D (.lst ((a0 :: as').map V.ref))) D = some (.lst ((a0 :: as').map V.ref)) := upd_same
    generalize upd H1 D (.lst ((a0 :: as').map V.ref)) = H2 at s1' eD
    have s02 : Same H H2 := (s0.trans s1).trans s1'
    have ea0 : H2 a0 = some (.lst ((spl h0).map V.str)) := s1' _ _ (hrow 0 a0 _ rfl (by rw [ez]; rfl))
    have eas : ∀ (i : Nat) a, as'[i]? = some a → i < tl.length → H2 a = some (.lst ((spl (tl.getD i Str.empty)).map V.str)) := fun i a ea hi => by
      refine s1' _ _ (hrow (i + 1) a _ (by simpa using ea) ?_)
      rw [ez, List.map_cons, List.getElem?_cons_succ, List.getElem?_map, List.getElem?_eq_getElem hi, List.getD_eq_getElem?_getD, List.getElem?_eq_getElem hi]
      rfl
    have ga : ∀ i, i < tl.length → tl.getD i Str.empty ∈ tl := fun i hi => by rw [List.getD_eq_getElem?_getD, List.getElem?_eq_getElem hi]; exact List.getElem_mem hi
    have wA : ∀ ln, Asc 20000 ln → (∀ w ∈ spl ln, Asc 20000 w) ∧ (spl ln).length ≤ 20001 := fun ln A => A.split 32
    refine ⟨_, rfl, _, _, _, _, rfl, rfl, SqL.of eD, at_list (n := 0) rfl rfl, a0, spl h0, rfl, SqL.of ea0, (wA h0 hA0).1, fun hk H3 s3 => ?_, fun hk H3 s3 => xe (fun W => hk (by have := W.h; rw [hh0] at this; exact this)) _ _ (.inl rfl)⟩
    refine ⟨_, rfl, _, rfl, _, _, rfl, SqL.of (s3 _ _ eD), fun p4 hp4 => ?_⟩
    rw [show (1 : Int) = ((1 : Nat) : Int) from rfl, cut_from (k := 1) (by simp)]
    have s4 : Same H3 (upd H3 p4 (.lst (as'.map V.ref))) := same_new hp4
    have e4 : (upd H3 p4 (.lst (as'.map V.ref))) p4 = some (.lst (as'.map V.ref)) := upd_same
    refine ⟨p4, rfl, ⟨_, SqL.of upd_same⟩, ?_⟩
    show CompW _ _ _ _ _ _ (upd H3 p4 (.lst (as'.map V.ref)))
    generalize upd H3 p4 (.lst (as'.map V.ref)) = H4 at s4 e4
    have s24 : Same H2 H4 := s3.trans s4
    refine comp_newsX (ls := tl.map fun ln => (nums3 (spl ln)).map V.int) (g := fun i => NumsOk (spl (tl.getD i Str.empty))) (wk_list (K := K) (SqL.of e4)) (by rw [List.length_map, hlen']; exact size_of (by omega)) (by simp [hlen']) (fun i x l H5 ex el s5 Q' q' => ?_) (fun ns H5 s5 hg5 hlen5 nd5 fr5 hrow5 N hN => ?_)
    · rw [List.getElem?_map] at ex el
      cases er : as'[i]? with
      | none => rw [er] at ex; cases ex
      | some a =>
        rw [er] at ex
        cases ex
        have hi : i < tl.length := by have := (List.getElem?_eq_some_iff.mp er).1; omega
        have eg : tl[i]? = some (tl.getD i Str.empty) := by rw [List.getD_eq_getElem?_getD, List.getElem?_eq_getElem hi]; rfl
        rw [eg] at el
        cases el
        have w2 := wA _ (hAt _ (ga i hi))
        exact ⟨_, rfl, a, spl (tl.getD i Str.empty), rfl, SqL.of (s5 _ _ (s24 _ _ (eas i a er hi))), w2.1, w2.2, fun g => q' g, fun g H6 s6 => xe (fun W => g (by have o := W.ok _ (by rw [htl]; exact ga i hi); exact ⟨o.gt, o.n⟩)) _ _ (.inl rfl)⟩
    rw [List.length_map] at hlen5
    have MN := mat_of (H := H4) (R := N) (rows := tl.map fun ln => nums3 (spl ln)) (by rw [List.length_map]; exact hlen5) nd5 s5 (by rw [List.map_map]; exact hrow5) hN
    have s6 : Same H2 (upd H5 N (.lst (ns.map V.ref))) := s24.trans (same_upd s5 (s5.free hN))
    generalize upd H5 N (.lst (ns.map V.ref)) = H6 at MN s6
    refine ⟨_, rfl, _, rfl, _, _, rfl, SqL.of (s6 _ _ eD), fun p7 hp7 => ?_⟩
    rw [cut_from (k := 1) (by simp)]
    have s7 : Same H6 (upd H6 p7 (.lst (as'.map V.ref))) := same_new hp7
    have e7 : (upd H6 p7 (.lst (as'.map V.ref))) p7 = some (.lst (as'.map V.ref)) := upd_same
    refine ⟨p7, rfl, ⟨_, SqL.of upd_same⟩, ?_⟩
    show CompW _ _ _ _ _ _ (upd H6 p7 (.lst (as'.map V.ref)))
    generalize upd H6 p7 (.lst (as'.map V.ref)) = H7 at s7 e7
    have s27 : Same H2 H7 := s6.trans s7
    refine comp_newsX (ls := (rowsT tl).map fun r => r.map V.int) (g := fun i => ∀ w ∈ (spl (tl.getD i Str.empty)).drop 4, -1 ≤ wayV w) (wk_list (K := K) (SqL.of e7)) (by rw [List.length_map, hlen']; exact size_of (by omega)) (by unfold rowsT; simp [hlen']) (fun i x l H8 ex el s8 Q' q' => ?_) (fun rs H8 s8 hg8 hlen8 nd8 fr8 hrow8 R hR => ?_)
    · rw [List.getElem?_map] at ex el
      unfold rowsT at el
      rw [List.getElem?_map] at el
      cases er : as'[i]? with
      | none => rw [er] at ex; cases ex
      | some a =>
        rw [er] at ex
        cases ex
        have hi : i < tl.length := by have := (List.getElem?_eq_some_iff.mp er).1; omega
        have eg : tl[i]? = some (tl.getD i Str.empty) := by rw [List.getD_eq_getElem?_getD, List.getElem?_eq_getElem hi]; rfl
        rw [eg] at el
        cases el
        have w2 := wA _ (hAt _ (ga i hi))
        exact ⟨_, rfl, a, spl (tl.getD i Str.empty), rfl, SqL.of (s8 _ _ (s27 _ _ (eas i a er hi))), w2.1, w2.2, fun g => q' g, fun g H9 s9 => xe (fun W => g (fun w hw => ((W.ok _ (by rw [htl]; exact ga i hi)).e w hw).1)) _ _ (.inl rfl)⟩
    rw [List.length_map] at hlen8
    have MR := mat_of (H := H7) (R := R) hlen8 nd8 s8 hrow8 hR
    have s9 : Same H6 (upd H8 R (.lst (rs.map V.ref))) := s7.trans (same_upd s8 (s8.free hR))
    generalize upd H8 R (.lst (rs.map V.ref)) = H9 at MR s9
    have s09 : Same H H9 := (s02.trans s6).trans s9
    rw [List.length_map, hlen'] at hg5 hg8
    have RD : Rdb z := by
      refine ⟨by rw [hh0]; exact hk, fun ln hl => ?_⟩
      rw [htl] at hl
      obtain ⟨i, hi, e⟩ := List.getElem_of_mem hl
      have eg : tl.getD i Str.empty = ln := by rw [List.getD_eq_getElem?_getD, List.getElem?_eq_getElem hi, e]; rfl
      have g5 := hg5 i hi
      have g8 := hg8 i hi
      rw [eg] at g5 g8
      exact ⟨g5.1, g5.2, g8⟩
    have wr := RD.wr
    have nm := nums_tail z
    have er : ({ brdT z with taken := 0 } : Brd).rows = rowsT tl := by show rowsT (lns z).tail = _; rw [htl]
    refine ⟨fun cls c H' => ∃ d, cls = .ref d ∧ Four A d ∧ c = none ∧ ¬ Wr z, ?_, ?_⟩
    · refine ⟨_, rfl, _, rfl, R, N, rs, ns, { brdT z with taken := 0 }, rfl, (by rw [er]; exact MR), (by rw [nm, htl]; exact MN.same s9), pre_of RD, fun F p dx aR asB aT aL aS HA BA sA frA => ?_, fun F c H' h4 _ => ⟨c, rfl, h4, rfl, fun W => F (wr.mp W)⟩⟩
      have W := wr.mpr F
      refine ⟨_, rfl, _, rfl, p, A.C, dx, _, rfl, BA.ob, T.cl_Board, T.na_taken, (by show 5 < 1000; decide), ?_⟩
      rw [putF_taken]
      have BB := BA.setP (numV ((spl h0).getD 1 Str.empty))
      have et : (brdT z).taken = numV ((spl h0).getD 1 Str.empty) := by show numV ((spl ((lns z).headD Str.empty)).getD 1 Str.empty) = _; rw [hh0]
      refine ⟨_, rfl, q W p dx aR asB aT aL aS _ ?_ (same_upd (s09.trans sA) (s09.free (frA p List.mem_cons_self))) fun c hc => s09.free (frA c hc)⟩
      have eb : brdT z = { ({ brdT z with taken := 0 } : Brd) with taken := numV ((spl h0).getD 1 Str.empty) } := by rw [← et]
      rw [eb]
      exact BB
    · rintro cls c H' ⟨d, rfl, h4, rfl, W⟩
      have go : ∀ (d : Addr) (DD : Ends) (σ0 : St), XCls K d → d ≠ A.c_BoardError → PySem.W.kitOne K (.ref d) (.ref A.c_BoardError) = some true → tHsF K 6 A.c_BoardError A.c_NoBoard E (tCons (tC (V.str (Str.ofString "no board can be told, turned and loaded so"))) tNil) (fun _ _ _ _ _ => False) (.ref d) none DD σ0 H' := fun d DD σ0 x n k => ⟨d, true, rfl, n, k, iteT ⟨rfl, x, fun e o ws he c1 c2 c3 => ⟨small12 (by show 1 ≤ 100; decide), upd_same, xe W _ _ (.inr ⟨e, o, _, ws, d, rfl, upd_same, c1, c2, c3⟩)⟩⟩⟩
      rcases h4 with rfl | rfl | rfl | rfl
      · exact go _ _ _ T.x_NoSite T.ne_NoSite_BoardError T.p_NoSite_BoardError
      · exact go _ _ _ T.x_NoExit T.ne_NoExit_BoardError T.p_NoExit_BoardError
      · exact go _ _ _ T.x_NoPlace T.ne_NoPlace_BoardError T.p_NoPlace_BoardError
      · exact go _ _ _ T.x_TooMany T.ne_TooMany_BoardError T.p_TooMany_BoardError
theorem sc_number : FnScope ["word", "sign"] ["word"] (defScope s_number) := ⟨rfl, rfl, rfl, by decide +kernel, rfl, by decide +kernel, by decide +kernel⟩
theorem ok_number (T : Txt K mg A) : FnOk P w K mg base CX0 1 A.f_number A.fd_number ["word"] spNumL := by
  refine T.F_number.ok sc_number (fun vs H Q E h => ?_) (fun cdv A' outer s H vs Q E hr h => ?_)
  · obtain ⟨z, rfl, _⟩ := h
    rfl
  · obtain ⟨z, rfl, Az, q⟩ := h
    have lz := Az.l
    have nb := isNum_by Az
    refine ⟨_, (pss_cons (ps_if (PW.pt (pw_or (pt_cmpR op_eq (pv 0) pe_str (nomark _)) (pw_or (pt_cmpR op_gt (pe_callB call_len_str (by rfl) T.n_len PySem.boot_len (pa_cons (pv 0) pa_nil)) pe_int (nomark _)) (pw_or1 (PW.pt (pw_and (pt_cmpR op_gt (pe_callB call_len_str (by rfl) T.n_len PySem.boot_len (pa_cons (pv 0) pa_nil)) pe_int (nomark _)) (pw_and1 (pt_cmpR op_eq (pe_ix ix_str (pv 0) pe_int (fun _ _ => rfl)) pe_str (nomark _)))))))))
        (pss_one (ps_ret (pe_un un_neg pe_int)))
        pss_nil)
      (pss_cons (ps_for PassesOwn.never rfl (pi_str (pv 0)) (pg_name (i := 1) sc_number.nd rfl (Or.inl rfl))
        (pss_one (ps_if (pt_cmpR op_notin_str (pv 1) pe_str (by with_unfolding_all rfl))
          (pss_one (ps_ret (pe_un un_neg pe_int)))
          pss_nil)))
      (pss_one (ps_ret (pe_callTy call_int_str (by rfl) T.n_int PyProof.Rows.Boot.«int» (pa_cons (pv 0) pa_nil)))))), ?_⟩
    have bad : ¬ IsNum z → Q (.int (-2)) H := fun n => by rw [numV_not n] at q; exact q
    refine ⟨_, rfl, rfl, _, rfl, ?_⟩
    by_cases c0 : z.length = 0
    case pos =>
      rw [decide_eq_true (show V.str z = V.str (Str.ofString "") by rw [(empty_is z).mpr c0])]
      refine iteT ?_
      refine iteT ?_
      exact ⟨_, rfl, bad fun y => by have := (nb.mp y).1.1; omega⟩
    rw [decide_eq_false (show ¬ V.str z = V.str (Str.ofString "") from fun h => c0 ((empty_is z).mp (by injection h)))]
    refine iteF ?_
    refine ⟨_, rfl, _, rfl, size_of (by omega), _, _, rfl, rfl, _, rfl, ?_⟩
    by_cases c1 : (20 : Int) < (z.length : Int)
    case pos =>
      rw [decide_eq_true (show (z.length : Int) > 20 from c1)]
      refine iteT ?_
      refine iteT ?_
      exact ⟨_, rfl, bad fun y => by have := (nb.mp y).1.2; omega⟩
    rw [decide_eq_false (show ¬ (z.length : Int) > 20 from c1)]
    refine iteF ?_
    obtain ⟨c, hc⟩ : ∃ c, z.cps[0]? = some c := by
      have e : z.cps.size = z.length := rfl
      exact ⟨_, Array.getElem?_eq_getElem (by omega)⟩
    have hat : atI z.cps.toList 0 = some c := at_list (n := 0) rfl (by simpa using hc)
    have done : IsNum z → PySem.intText? z = some (numV z) := fun N => by
      obtain ⟨n1, n2⟩ := numV_nn (isNum_iff.mp N)
      conv => lhs; rw [n2]
      exact num_int n1
    refine ⟨_, rfl, _, rfl, size_of (by omega), _, _, rfl, rfl, _, rfl, ?_⟩
    by_cases c2 : (1 : Int) < (z.length : Int)
    · rw [decide_eq_true (show (z.length : Int) > 1 from c2)]
      refine iteT ?_
      refine ⟨_, rfl, _, _, c, rfl, rfl, size_of (by omega), hat, rfl, _, rfl, ?_⟩
      by_cases c3 : c = 48
      · rw [decide_eq_true (show V.str (⟨#[c]⟩ : Str) = V.str (Str.ofString "0") by rw [c3, zero_is])]
        refine iteT ?_
        refine ⟨_, rfl, bad fun y => ?_⟩
        have := (nb.mp y).2.2 (by rw [hc, c3])
        rw [this, zero_is] at c2
        exact absurd c2 (by decide)
      · rw [decide_eq_false (show ¬ V.str (⟨#[c]⟩ : Str) = V.str (Str.ofString "0") from fun h => c3 (by rw [zero_is] at h; injection h with h; injection h with h; simpa using h))]
        refine iteF ?_
        have h0 : z.cps[0]? = some 48 → z = Str.ofString "0" := fun e => absurd (by rw [hc] at e; exact Option.some.inj e) c3
        refine ⟨_, rfl, _, rfl, Az.all, for_wk (wk_str (z := z)) (fun i σ' => ∃ x1 : Option V, σ' = [some (.str z), x1] ∧ ∀ d ∈ z.cps.toList.take i, 48 ≤ d ∧ d ≤ 57) ⟨none, rfl, by simp⟩ ?_ ?_⟩
        · rintro i x σ' ex ⟨x1, rfl, hd⟩
          rw [signsV, List.getElem?_map] at ex
          cases ec : z.cps.toList[i]? with
          | none => rw [ec] at ex; cases ex
          | some d =>
            rw [ec] at ex
            cases ex
            have hm := List.mem_of_getElem? ec
            refine ⟨_, rfl, _, _, rfl, rfl, _, rfl, ?_⟩
            rw [fig_iff d (Az.a d hm)]
            by_cases c4 : 48 ≤ d ∧ d ≤ 57
            · rw [decide_eq_true c4]
              refine iteF ⟨rfl, _, rfl, fun e he => ?_⟩
              rw [List.take_add_one, ec] at he
              rcases List.mem_append.mp he with h | h
              · exact hd e h
              · have : e = d := by simpa using h
                rw [this]; exact c4
            · rw [decide_eq_false c4]
              refine iteT ?_
              exact ⟨_, rfl, bad fun y => c4 ((nb.mp y).2.1 d hm)⟩
        · rintro σ' ⟨x1, rfl, hd⟩
          have hl : (signsV z).length = z.cps.toList.length := by rw [signsV, List.length_map]
          rw [hl, List.take_of_length_le (Nat.le_refl _)] at hd
          have N := nb.mpr ⟨⟨by omega, by omega⟩, hd, h0⟩
          exact ⟨_, rfl, _, numV z, rfl, done N, by omega, q⟩
    · rw [decide_eq_false (show ¬ (z.length : Int) > 1 from c2)]
      refine iteF ?_
      refine iteF ?_
      have h0 : z.cps[0]? = some 48 → z = Str.ofString "0" := fun e => by
        refine str_toList ?_
        rw [zero_is]
        have el : z.cps.toList.length = z.length := Array.length_toList
        have e0 : z.cps.toList[0]? = some 48 := by simpa using e
        cases q0 : z.cps.toList with
        | nil => rw [q0] at e0; cases e0
        | cons x r =>
          rw [q0] at e0 el
          obtain rfl : r = [] := List.eq_nil_of_length_eq_zero (by simp at el; omega)
          simpa using e0
      refine ⟨_, rfl, _, rfl, Az.all, for_wk (wk_str (z := z)) (fun i σ' => ∃ x1 : Option V, σ' = [some (.str z), x1] ∧ ∀ d ∈ z.cps.toList.take i, 48 ≤ d ∧ d ≤ 57) ⟨none, rfl, by simp⟩ ?_ ?_⟩
      · rintro i x σ' ex ⟨x1, rfl, hd⟩
        rw [signsV, List.getElem?_map] at ex
        cases ec : z.cps.toList[i]? with
        | none => rw [ec] at ex; cases ex
        | some d =>
          rw [ec] at ex
          cases ex
          have hm := List.mem_of_getElem? ec
          refine ⟨_, rfl, _, _, rfl, rfl, _, rfl, ?_⟩
          rw [fig_iff d (Az.a d hm)]
          by_cases c4 : 48 ≤ d ∧ d ≤ 57
          · rw [decide_eq_true c4]
            refine iteF ⟨rfl, _, rfl, fun e he => ?_⟩
            rw [List.take_add_one, ec] at he
            rcases List.mem_append.mp he with h | h
            · exact hd e h
            · have : e = d := by simpa using h
              rw [this]; exact c4
          · rw [decide_eq_false c4]
            refine iteT ?_
            exact ⟨_, rfl, bad fun y => c4 ((nb.mp y).2.1 d hm)⟩
      · rintro σ' ⟨x1, rfl, hd⟩
        have hl : (signsV z).length = z.cps.toList.length := by rw [signsV, List.length_map]
        rw [hl, List.take_of_length_le (Nat.le_refl _)] at hd
        have N := nb.mpr ⟨⟨by omega, by omega⟩, hd, h0⟩
        exact ⟨_, rfl, _, numV z, rfl, done N, by omega, q⟩
theorem sc_exit : FnScope ["word"] ["word"] (defScope s_exit) := ⟨rfl, rfl, rfl, by decide +kernel, rfl, by decide +kernel, by decide +kernel⟩
theorem ok_exit (T : Txt K mg A) (G_number : FnOk P w K mg base CX0 1 A.f_number A.fd_number ["word"] spNumL) : FnOk P w K mg base CX0 2 A.f_exit A.fd_exit ["word"] spExitL := by
  refine T.F_exit.ok sc_exit (fun vs H Q E h => ?_) (fun cdv A' outer s H vs Q E hr h => ?_)
  · obtain ⟨z, rfl, _⟩ := h
    rfl
  · obtain ⟨z, rfl, Az, q⟩ := h
    refine ⟨_, (pss_cons (ps_if (pt_cmpR op_eq (pv 0) pe_str (nomark _))
        (pss_one (ps_ret (pe_un un_neg pe_int)))
        pss_nil)
      (pss_one (ps_ret (pe_call G_number (hr.mono (by decide)) (by rfl) T.m__law_number T.k__law_number T.b__law_number .nil pass0 (pa_cons (pv 0) pa_nil))))), ?_⟩
    refine ⟨_, rfl, rfl, _, rfl, ?_⟩
    by_cases c0 : z = Str.ofString "pit"
    · rw [decide_eq_true (show V.str z = V.str (Str.ofString "pit") by rw [c0])]
      refine iteT ?_
      have e : wayV z = -1 := by unfold wayV; rw [if_pos c0]
      rw [e] at q
      exact ⟨_, rfl, q⟩
    · rw [decide_eq_false (show ¬ V.str z = V.str (Str.ofString "pit") from fun h => c0 (by injection h))]
      refine iteF ?_
      have e : wayV z = numV z := by unfold wayV; rw [if_neg c0]
      rw [e] at q
      exact ⟨_, rfl, z, rfl, Az, q⟩
theorem okh_number (T : Txt K mg A) : FnH P w K mg base 1 A.f_number A.fd_number ["word"] spNumL := by
  refine T.F_number.okH sc_number (fun vs H Q E h => ?_) (fun cdv A' outer s H vs Q hr h => ?_)
  · obtain ⟨z, rfl, _⟩ := h
    rfl
  · obtain ⟨z, rfl, Az, q⟩ := h
    have lz := Az.l
    have nb := isNum_by Az
    refine ⟨_, (pss_cons (ps_if (PW.pt (pw_or (pt_cmpR op_eq (pv 0) pe_str (nomark _)) (pw_or (pt_cmpR op_gt (pe_callB call_len_str (by rfl) T.n_len PySem.boot_len (pa_cons (pv 0) pa_nil)) pe_int (nomark _)) (pw_or1 (PW.pt (pw_and (pt_cmpR op_gt (pe_callB call_len_str (by rfl) T.n_len PySem.boot_len (pa_cons (pv 0) pa_nil)) pe_int (nomark _)) (pw_and1 (pt_cmpR op_eq (pe_ix ix_str (pv 0) pe_int (fun _ _ => rfl)) pe_str (nomark _)))))))))
        (pss_one (ps_ret (pe_un un_neg pe_int)))
        pss_nil)
      (pss_cons (ps_for PassesOwn.leaving rfl (pi_str (pv 0)) (pg_name (i := 1) sc_number.nd rfl (Or.inl rfl))
        (pss_one (ps_if (pt_cmpR op_notin_str (pv 1) pe_str (by with_unfolding_all rfl))
          (pss_one (ps_ret (pe_un un_neg pe_int)))
          pss_nil)))
      (pss_one (ps_ret (pe_callTy call_int_str (by rfl) T.n_int PyProof.Rows.Boot.«int» (pa_cons (pv 0) pa_nil)))))), ?_⟩
    have bad : ¬ IsNum z → Q (.int (-2)) H := fun n => by rw [numV_not n] at q; exact q
    refine ⟨_, rfl, rfl, _, rfl, ?_⟩
    by_cases c0 : z.length = 0
    case pos =>
      rw [decide_eq_true (show V.str z = V.str (Str.ofString "") by rw [(empty_is z).mpr c0])]
      refine iteT ?_
      refine iteT ?_
      exact ⟨_, rfl, bad fun y => by have := (nb.mp y).1.1; omega⟩
    rw [decide_eq_false (show ¬ V.str z = V.str (Str.ofString "") from fun h => c0 ((empty_is z).mp (by injection h)))]
    refine iteF ?_
    refine ⟨_, rfl, _, rfl, size_of (by omega), _, _, rfl, rfl, _, rfl, ?_⟩
    by_cases c1 : (20 : Int) < (z.length : Int)
    case pos =>
      rw [decide_eq_true (show (z.length : Int) > 20 from c1)]
      refine iteT ?_
      refine iteT ?_
      exact ⟨_, rfl, bad fun y => by have := (nb.mp y).1.2; omega⟩
    rw [decide_eq_false (show ¬ (z.length : Int) > 20 from c1)]
    refine iteF ?_
    obtain ⟨c, hc⟩ : ∃ c, z.cps[0]? = some c := by
      have e : z.cps.size = z.length := rfl
      exact ⟨_, Array.getElem?_eq_getElem (by omega)⟩
    have hat : atI z.cps.toList 0 = some c := at_list (n := 0) rfl (by simpa using hc)
    have done : IsNum z → PySem.intText? z = some (numV z) := fun N => by
      obtain ⟨n1, n2⟩ := numV_nn (isNum_iff.mp N)
      conv => lhs; rw [n2]
      exact num_int n1
    refine ⟨_, rfl, _, rfl, size_of (by omega), _, _, rfl, rfl, _, rfl, ?_⟩
    by_cases c2 : (1 : Int) < (z.length : Int)
    · rw [decide_eq_true (show (z.length : Int) > 1 from c2)]
      refine iteT ?_
      refine ⟨_, rfl, _, _, c, rfl, rfl, size_of (by omega), hat, rfl, _, rfl, ?_⟩
      by_cases c3 : c = 48
      · rw [decide_eq_true (show V.str (⟨#[c]⟩ : Str) = V.str (Str.ofString "0") by rw [c3, zero_is])]
        refine iteT ?_
        refine ⟨_, rfl, bad fun y => ?_⟩
        have := (nb.mp y).2.2 (by rw [hc, c3])
        rw [this, zero_is] at c2
        exact absurd c2 (by decide)
      · rw [decide_eq_false (show ¬ V.str (⟨#[c]⟩ : Str) = V.str (Str.ofString "0") from fun h => c3 (by rw [zero_is] at h; injection h with h; injection h with h; simpa using h))]
        refine iteF ?_
        have h0 : z.cps[0]? = some 48 → z = Str.ofString "0" := fun e => absurd (by rw [hc] at e; exact Option.some.inj e) c3
        refine ⟨_, rfl, _, rfl, Az.all, for_wk (wk_str (z := z)) (fun i σ' => ∃ x1 : Option V, σ' = [some (.str z), x1] ∧ ∀ d ∈ z.cps.toList.take i, 48 ≤ d ∧ d ≤ 57) ⟨none, rfl, by simp⟩ ?_ ?_⟩
        · rintro i x σ' ex ⟨x1, rfl, hd⟩
          rw [signsV, List.getElem?_map] at ex
          cases ec : z.cps.toList[i]? with
          | none => rw [ec] at ex; cases ex
          | some d =>
            rw [ec] at ex
            cases ex
            have hm := List.mem_of_getElem? ec
            refine ⟨_, rfl, _, _, rfl, rfl, _, rfl, ?_⟩
            rw [fig_iff d (Az.a d hm)]
            by_cases c4 : 48 ≤ d ∧ d ≤ 57
            · rw [decide_eq_true c4]
              refine iteF ⟨rfl, _, rfl, fun e he => ?_⟩
              rw [List.take_add_one, ec] at he
              rcases List.mem_append.mp he with h | h
              · exact hd e h
              · have : e = d := by simpa using h
                rw [this]; exact c4
            · rw [decide_eq_false c4]
              refine iteT ?_
              exact ⟨_, rfl, bad fun y => c4 ((nb.mp y).2.1 d hm)⟩
        · rintro σ' ⟨x1, rfl, hd⟩
          have hl : (signsV z).length = z.cps.toList.length := by rw [signsV, List.length_map]
          rw [hl, List.take_of_length_le (Nat.le_refl _)] at hd
          have N := nb.mpr ⟨⟨by omega, by omega⟩, hd, h0⟩
          exact ⟨_, rfl, _, numV z, rfl, done N, by omega, q⟩
    · rw [decide_eq_false (show ¬ (z.length : Int) > 1 from c2)]
      refine iteF ?_
      refine iteF ?_
      have h0 : z.cps[0]? = some 48 → z = Str.ofString "0" := fun e => by
        refine str_toList ?_
        rw [zero_is]
        have el : z.cps.toList.length = z.length := Array.length_toList
        have e0 : z.cps.toList[0]? = some 48 := by simpa using e
        cases q0 : z.cps.toList with
        | nil => rw [q0] at e0; cases e0
        | cons x r =>
          rw [q0] at e0 el
          obtain rfl : r = [] := List.eq_nil_of_length_eq_zero (by simp at el; omega)
          simpa using e0
      refine ⟨_, rfl, _, rfl, Az.all, for_wk (wk_str (z := z)) (fun i σ' => ∃ x1 : Option V, σ' = [some (.str z), x1] ∧ ∀ d ∈ z.cps.toList.take i, 48 ≤ d ∧ d ≤ 57) ⟨none, rfl, by simp⟩ ?_ ?_⟩
      · rintro i x σ' ex ⟨x1, rfl, hd⟩
        rw [signsV, List.getElem?_map] at ex
        cases ec : z.cps.toList[i]? with
        | none => rw [ec] at ex; cases ex
        | some d =>
          rw [ec] at ex
          cases ex
          have hm := List.mem_of_getElem? ec
          refine ⟨_, rfl, _, _, rfl, rfl, _, rfl, ?_⟩
          rw [fig_iff d (Az.a d hm)]
          by_cases c4 : 48 ≤ d ∧ d ≤ 57
          · rw [decide_eq_true c4]
            refine iteF ⟨rfl, _, rfl, fun e he => ?_⟩
            rw [List.take_add_one, ec] at he
            rcases List.mem_append.mp he with h | h
            · exact hd e h
            · have : e = d := by simpa using h
              rw [this]; exact c4
          · rw [decide_eq_false c4]
            refine iteT ?_
            exact ⟨_, rfl, bad fun y => c4 ((nb.mp y).2.1 d hm)⟩
      · rintro σ' ⟨x1, rfl, hd⟩
        have hl : (signsV z).length = z.cps.toList.length := by rw [signsV, List.length_map]
        rw [hl, List.take_of_length_le (Nat.le_refl _)] at hd
        have N := nb.mpr ⟨⟨by omega, by omega⟩, hd, h0⟩
        exact ⟨_, rfl, _, numV z, rfl, done N, by omega, q⟩
theorem okh_exit (T : Txt K mg A) (GH_number : FnH P w K mg base 1 A.f_number A.fd_number ["word"] spNumL) : FnH P w K mg base 2 A.f_exit A.fd_exit ["word"] spExitL := by
  refine T.F_exit.okH sc_exit (fun vs H Q E h => ?_) (fun cdv A' outer s H vs Q hr h => ?_)
  · obtain ⟨z, rfl, _⟩ := h
    rfl
  · obtain ⟨z, rfl, Az, q⟩ := h
    refine ⟨_, (pss_cons (ps_if (pt_cmpR op_eq (pv 0) pe_str (nomark _))
        (pss_one (ps_ret (pe_un un_neg pe_int)))
        pss_nil)
      (pss_one (ps_ret (pe_callHH GH_number rfl (by exact RoomH.mono hr (by decide)) (by rfl) T.m__law_number T.k__law_number T.b__law_number (pa_cons (pv 0) pa_nil))))), ?_⟩
    refine ⟨_, rfl, rfl, _, rfl, ?_⟩
    by_cases c0 : z = Str.ofString "pit"
    · rw [decide_eq_true (show V.str z = V.str (Str.ofString "pit") by rw [c0])]
      refine iteT ?_
      have e : wayV z = -1 := by unfold wayV; rw [if_pos c0]
      rw [e] at q
      exact ⟨_, rfl, q⟩
    · rw [decide_eq_false (show ¬ V.str z = V.str (Str.ofString "pit") from fun h => c0 (by injection h))]
      refine iteF ?_
      have e : wayV z = numV z := by unfold wayV; rw [if_neg c0]
      rw [e] at q
      exact ⟨_, rfl, z, rfl, Az, q⟩
theorem sc_writes : FnScope ["signs", "lines", "many", "lying", "line", "words", "numbers", "exits"] ["signs"] (defScope s_writes) := ⟨rfl, rfl, rfl, by decide +kernel, rfl, by decide +kernel, by decide +kernel⟩
theorem ok_writes (T : Txt K mg A) (G_number : FnOk P w K mg base CX0 1 A.f_number A.fd_number ["word"] spNumL) (G_exit : FnOk P w K mg base CX0 2 A.f_exit A.fd_exit ["word"] spExitL) : FnOk P w K mg base CX0 3 A.f_writes A.fd_writes ["signs"] spWrites := by
  refine T.F_writes.ok sc_writes (fun vs H Q E h => ?_) (fun cdv A' outer s H vs Q E hr h => ?_)
  · obtain ⟨z, rfl, _⟩ := h
    rfl
  · obtain ⟨z, rfl, Az, qT, qF⟩ := h
    have lz := Az.l
    obtain ⟨spA, spL⟩ := Az.split 10
    change ∀ w ∈ lns z, Asc 20000 w at spA
    change (lns z).length ≤ 20000 + 1 at spL
    have ez : lns z = (lns z).headD Str.empty :: (lns z).tail := headD_tail (lns_ne z)
    have hA0 : Asc 20000 ((lns z).headD Str.empty) := spA _ (by rw [ez]; exact List.mem_cons_self)
    have hAt : ∀ ln ∈ (lns z).tail, Asc 20000 ln := fun ln hl => spA ln (List.mem_of_mem_tail hl)
    refine ⟨_, (pss_cons (ps_set (i := 1) sc_writes.nd rfl (Or.inl rfl) (pe_bm PySem.F.plainAttrs_str PySem.F.slot_str_split PySem.F.type_str_split mt_split (pv 0) (pa_cons pe_str pa_nil)))
      (pss_cons (ps_set (i := 2) sc_writes.nd rfl (Or.inl rfl) (pe_op op_sub (pe_callB (call_lenK (K := K) rfl) (by rfl) T.n_len PySem.boot_len (pa_cons (pv 1) pa_nil)) pe_int))
      (pss_cons (ps_if (PW.pt (pw_or (pt_cmpR op_ne (pe_slice sl_str (pe_ix (ix_listK (K := K) rfl) (pv 1) pe_int (fun _ _ => rfl)) po_none (po_some pe_int)) pe_str (nomark _)) (pw_or (pt_cmpR op_lt (pe_call G_number (hr.mono (by decide)) (by rfl) T.m__law_number T.k__law_number T.b__law_number .nil pass0 (pa_cons (pe_slice sl_str (pe_ix (ix_listK (K := K) rfl) (pv 1) pe_int (fun _ _ => rfl)) (po_some pe_int) po_none) pa_nil)) pe_int (nomark _)) (pw_or (pt_cmpR op_lt (pv 2) pe_int (nomark _)) (pw_or1 (pt_cmpR op_gt (pv 2) pe_int (nomark _)))))))
        (pss_one (ps_ret pe_bl))
        pss_nil)
      (pss_cons (ps_set (i := 3) sc_writes.nd rfl (Or.inl rfl) pe_int)
      (pss_cons (ps_for PassesOwn.never rfl (pi_listK (K := K) rfl (pe_slice (sl_listK (K := K) rfl) (pv 1) (po_some pe_int) po_none)) (pg_name (i := 4) sc_writes.nd rfl (Or.inl rfl))
        (pss_cons (ps_set (i := 5) sc_writes.nd rfl (Or.inl rfl) (pe_bm PySem.F.plainAttrs_str PySem.F.slot_str_split PySem.F.type_str_split mt_split (pv 4) (pa_cons pe_str pa_nil)))
        (pss_cons (ps_if (PW.pt (pw_or (pt_cmpR op_lt (pe_callB (call_lenK (K := K) rfl) (by rfl) T.n_len PySem.boot_len (pa_cons (pv 5) pa_nil)) pe_int (nomark _)) (pw_or (pt_cmpR op_gt (pe_callB (call_lenK (K := K) rfl) (by rfl) T.n_len PySem.boot_len (pa_cons (pv 5) pa_nil)) pe_int (nomark _)) (pw_or1 (pt_cmpR op_ne (pe_ix (ix_listK (K := K) rfl) (pv 5) pe_int (fun _ _ => rfl)) pe_str (nomark _))))))
          (pss_one (ps_ret pe_bl))
          pss_nil)
        (pss_cons (ps_setComp (i := 6) sc_writes.nd rfl rfl (CompSc.of (N' := ["word"]) (ix := [none]) rfl (by kernel_rfl)) rfl rfl rfl rfl (pi_listK (K := K) rfl (pe_slice (sl_listK (K := K) rfl) (pv 5) po_none (po_some pe_int))) (by exact fun _ _ _ _ _ => pf_nil) (by exact fun _ _ _ _ _ hI => (pe_call G_number (hr.mono (by decide)) (by rfl) T.m__law_number T.k__law_number T.b__law_number .nil pass0 (pa_cons (pv 0) pa_nil))))
        (pss_cons (ps_setComp (i := 7) sc_writes.nd rfl rfl (CompSc.of (N' := ["word"]) (ix := [none]) rfl (by kernel_rfl)) rfl rfl rfl rfl (pi_listK (K := K) rfl (pe_slice (sl_listK (K := K) rfl) (pv 5) (po_some pe_int) po_none)) (by exact fun _ _ _ _ _ => pf_nil) (by exact fun _ _ _ _ _ hI => (pe_call G_exit (hr.mono (by decide)) (by rfl) T.m__law_exit T.k__law_exit T.b__law_exit .nil pass0 (pa_cons (pv 0) pa_nil))))
        (pss_cons (ps_if (PW.pt (pw_or (pt_cmpR op_lt (pe_callB (call_minU (K := K) rfl rfl) (by rfl) T.n_min PyProof.Rows.Boot.«min» (pa_cons (pv 6) pa_nil)) pe_int (nomark _)) (pw_or (pt_cmpR op_lt (pe_callB (call_minU (K := K) rfl rfl) (by rfl) T.n_min PyProof.Rows.Boot.«min» (pa_cons (pv 7) pa_nil)) (pe_un un_neg pe_int) (nomark _)) (pw_or (pt_cmpR op_ge (pe_callB (call_maxU (K := K) rfl rfl) (by rfl) T.n_max PyProof.Rows.Boot.«max» (pa_cons (pv 7) pa_nil)) (pv 2) (nomark _)) (pw_or1 (pt_cmpR op_ge (pe_ix (ix_listK (K := K) rfl) (pv 6) pe_int (fun _ _ => rfl)) (pe_callB (call_lenK (K := K) rfl) (by rfl) T.n_len PySem.boot_len (pa_cons (pv 7) pa_nil)) (nomark _)))))))
          (pss_one (ps_ret pe_bl))
          pss_nil)
        (pss_one (ps_set (i := 3) sc_writes.nd rfl (Or.inl rfl) (pe_op op_add (pv 3) (pe_ix (ix_listK (K := K) rfl) (pv 6) pe_int (fun _ _ => rfl)))))))))))
      (pss_one (ps_ret (pe_cmpR op_le (pv 3) pe_int (nomark _))))))))), ?_⟩
    refine ⟨_, rfl, rfl, z, 10, rfl, congrArg (fun x => [V.str x]) nl_is, size_of (by omega), fun l0 hl0 => ?_⟩
    have s0 : Same H (upd H l0 (.lst ((lns z).map V.str))) := same_new hl0
    have e0 : (upd H l0 (.lst ((lns z).map V.str))) l0 = some (.lst ((lns z).map V.str)) := upd_same
    show gName _ _ _ (upd H l0 (.lst ((lns z).map V.str))) _
    generalize upd H l0 (.lst ((lns z).map V.str)) = H0 at s0 e0
    generalize hh0 : (lns z).headD Str.empty = h0 at ez hA0
    generalize htl : (lns z).tail = tl at ez hAt
    have wA : ∀ ln, Asc 20000 ln → (∀ w ∈ spl ln, Asc 20000 w) ∧ (spl ln).length ≤ 20001 := fun ln A => A.split 32
    have hlen : (lns z).length = tl.length + 1 := by rw [ez]; rfl
    have a0 : atI ((lns z).map V.str) 0 = some (V.str h0) := at_list (n := 0) rfl (by rw [ez]; rfl)
    have lh := hA0.l
    refine ⟨_, rfl, _, _, rfl, .inl (SqL.of e0), _, _, rfl, rfl, ?_⟩
    have em : (((lns z).map V.str).length : Int) - 1 = (tl.length : Int) := by rw [List.length_map, hlen]; omega
    dsimp only
    rw [em]
    refine ⟨_, rfl, _, _, _, _, rfl, rfl, SqL.of e0, a0, _, rfl, _, rfl, size_of (by omega), rfl, _, rfl, ?_⟩
    by_cases c1 : Txt.slice h0 none (some 6) = Str.ofString "board "
    case neg =>
      rw [decide_eq_false (show ¬ V.str (Txt.slice h0 none (some 6)) = V.str (Str.ofString "board ") from fun h => c1 (by injection h))]
      refine iteT ?_
      refine iteT ?_
      exact qF (fun W => c1 (by have := W.h; rw [hh0] at this; exact ((head_by h0).mp this).1)) _ s0
    rw [decide_eq_true (show V.str (Txt.slice h0 none (some 6)) = V.str (Str.ofString "board ") by rw [c1])]
    refine iteF ?_
    refine ⟨_, rfl, _, _, _, _, rfl, rfl, SqL.of e0, a0, _, rfl, _, rfl, size_of (by omega), _, rfl, hA0.slice _ _, _, _, rfl, rfl, _, rfl, ?_⟩
    by_cases c2 : numV (Txt.slice h0 (some 6) none) < 0
    case pos =>
      rw [decide_eq_true c2]
      refine iteT ?_
      refine iteT ?_
      exact qF (fun W => absurd (isNum_iff.mp ((head_by h0).mp (by have := W.h; rw [hh0] at this; exact this)).2) (by omega)) _ s0
    rw [decide_eq_false c2]
    refine iteF ?_
    have hk : HOk1 (spl h0) := (head_by h0).mpr ⟨c1, isNum_iff.mpr (by omega)⟩
    refine ⟨_, rfl, _, _, rfl, rfl, _, rfl, ?_⟩
    by_cases c3 : (tl.length : Int) < 1
    case pos =>
      rw [decide_eq_true c3]
      refine iteT ?_
      refine iteT ?_
      exact qF (fun W => by have := W.m1; rw [htl] at this; omega) _ s0
    rw [decide_eq_false c3]
    refine iteF ?_
    refine ⟨_, rfl, _, _, rfl, rfl, _, rfl, ?_⟩
    by_cases c4 : (tl.length : Int) > 12
    case pos =>
      rw [decide_eq_true c4]
      refine iteT ?_
      exact qF (fun W => by have := W.m12; rw [htl] at this; omega) _ s0
    rw [decide_eq_false c4]
    refine iteF ?_
    refine ⟨_, rfl, _, rfl, _, _, rfl, SqL.of e0, fun p1 hp1 => ?_⟩
    rw [show (some (1 : Int)) = some ((1 : Nat) : Int) from rfl, cutS_from 1]
    have e1' : (lns z).drop 1 = tl := by rw [ez]; rfl
    rw [e1']
    have s1 : Same H (upd H0 p1 (.lst (tl.map V.str))) := same_upd s0 (s0.free hp1)
    have e1 : (upd H0 p1 (.lst (tl.map V.str))) p1 = some (.lst (tl.map V.str)) := upd_same
    refine ⟨p1, rfl, ⟨_, SqL.of upd_same⟩, ?_⟩
    show ∃ W : Nat → Nat → St → Hp → Prop, (∃ m, W 0 m _ (upd H0 p1 (.lst (tl.map V.str)))) ∧ _
    generalize upd H0 p1 (.lst (tl.map V.str)) = H1 at s1 e1
    refine for_list (K := K) (a := p1) (xs := tl.map V.str) (fun i σ' H2 => ∃ x4 x5 x6 x7 : Option V, σ' = [some (.str z), some (.ref l0), some (.int (tl.length : Int)), some (.int (colT 1 (tl.take i)).sum), x4, x5, x6, x7] ∧ Same H1 H2 ∧ ∀ ln ∈ tl.take i, LOk tl.length (spl ln)) ⟨none, none, none, none, (by rfl), Same.refl _, by simp⟩ (fun i σ' H2 _ ⟨_, _, _, _, _, s, _⟩ => SqL.of (s _ _ e1)) ?_ ?_
    · rintro i x σ' H2 ex ⟨x4, x5, x6, x7, rfl, s2, ok⟩
      rw [List.getElem?_map] at ex
      cases er : tl[i]? with
      | none => rw [er] at ex; cases ex
      | some ln =>
      rw [er] at ex
      cases ex
      have hm := List.mem_of_getElem? er
      have Al := hAt ln hm
      have ll := Al.l
      obtain ⟨wa, wl⟩ := wA ln Al
      have s02 := s1.trans s2
      have bad : ¬ LOk tl.length (spl ln) → ∀ H', Same H2 H' → Q (.bl false) H' := fun n H' s' => qF (fun W => n (by have := W.ok ln (by rw [htl]; exact hm); rw [htl] at this; exact this)) _ (s02.trans s')
      refine ⟨_, rfl, rfl, ln, 32, rfl, congrArg (fun x => [V.str x]) sp_is, size_of (by omega), fun w0 hw0 => ?_⟩
      have s3 : Same H2 (upd H2 w0 (.lst ((spl ln).map V.str))) := same_new hw0
      have e3 : (upd H2 w0 (.lst ((spl ln).map V.str))) w0 = some (.lst ((spl ln).map V.str)) := upd_same
      show gName _ _ _ (upd H2 w0 (.lst ((spl ln).map V.str))) _
      generalize upd H2 w0 (.lst ((spl ln).map V.str)) = H3 at s3 e3
      generalize hws : spl ln = ws at wa wl e3 bad
      have hml : (ws.map V.str).length = ws.length := List.length_map ..
      refine ⟨_, rfl, _, _, rfl, .inl (SqL.of e3), _, _, rfl, rfl, _, rfl, ?_⟩
      rw [hml]
      by_cases d1 : (ws.length : Int) < 5
      case pos =>
        rw [decide_eq_true d1]
        refine iteT ?_
        refine iteT ?_
        exact bad (fun o => by have := o.l5; omega) _ s3
      rw [decide_eq_false d1]
      refine iteF ?_
      refine ⟨_, rfl, _, _, rfl, .inl (SqL.of e3), _, _, rfl, rfl, _, rfl, ?_⟩
      rw [hml]
      by_cases d2 : (ws.length : Int) > 12
      case pos =>
        rw [decide_eq_true d2]
        refine iteT ?_
        refine iteT ?_
        exact bad (fun o => by have := o.l12; omega) _ s3
      rw [decide_eq_false d2]
      refine iteF ?_
      have e33 : ws[3]? = some (ws.getD 3 Str.empty) := by rw [List.getD_eq_getElem?_getD, List.getElem?_eq_getElem (show 3 < ws.length by omega)]; rfl
      refine ⟨_, rfl, _, _, _, _, rfl, rfl, SqL.of e3, at_list (n := 3) rfl (by rw [List.getElem?_map, e33]; rfl), rfl, _, rfl, ?_⟩
      by_cases d3 : ws.getD 3 Str.empty = Str.ofString ">"
      case neg =>
        rw [decide_eq_false (show ¬ V.str (ws.getD 3 Str.empty) = V.str (Str.ofString ">") from fun h => d3 (by injection h))]
        refine iteT ?_
        exact bad (fun o => d3 (by have := o.gt; rw [e33] at this; exact Option.some.inj this)) _ s3
      rw [decide_eq_true (show V.str (ws.getD 3 Str.empty) = V.str (Str.ofString ">") by rw [d3])]
      refine iteF ?_
      refine ⟨_, rfl, _, rfl, _, _, rfl, SqL.of e3, fun p4 hp4 => ?_⟩
      rw [show (some (3 : Int)) = some ((3 : Nat) : Int) from rfl, cutS_to 3]
      have s4 : Same H3 (upd H3 p4 (.lst ((ws.take 3).map V.str))) := same_new hp4
      have e4 : (upd H3 p4 (.lst ((ws.take 3).map V.str))) p4 = some (.lst ((ws.take 3).map V.str)) := upd_same
      refine ⟨p4, rfl, ⟨_, SqL.of upd_same⟩, ?_⟩
      show CompW _ _ _ _ _ _ (upd H3 p4 (.lst ((ws.take 3).map V.str)))
      generalize upd H3 p4 (.lst ((ws.take 3).map V.str)) = H4 at s4 e4
      refine comp_valsS (ys := ((ws.take 3).map numV).map V.int) (wk_list (K := K) (SqL.of e4)) (by rw [List.length_map]; exact small12 (by rw [List.length_take]; omega)) (by simp) (fun j x y H5 ex ey s5 Q' q' => ?_) (fun H5 nD s5 hnD => ?_)
      · rw [List.getElem?_map] at ex ey
        rw [List.getElem?_map] at ey
        cases er : (ws.take 3)[j]? with
        | none => rw [er] at ex; cases ex
        | some w =>
          rw [er] at ex ey
          cases ex
          cases ey
          exact ⟨_, rfl, w, rfl, wa w (List.mem_of_mem_take (List.mem_of_getElem? er)), q' _ (Same.refl _)⟩
      have en : ((ws.take 3).map numV) = nums3 ws := nums3_is (by omega)
      rw [en]
      have s6 : Same H3 (upd H5 nD (.lst ((nums3 ws).map V.int))) := same_upd (s4.trans s5) ((s4.trans s5).free hnD)
      have e6 : (upd H5 nD (.lst ((nums3 ws).map V.int))) nD = some (.lst ((nums3 ws).map V.int)) := upd_same
      show gName _ _ _ (upd H5 nD (.lst ((nums3 ws).map V.int))) _
      generalize upd H5 nD (.lst ((nums3 ws).map V.int)) = H6 at s6 e6
      refine ⟨_, rfl, _, rfl, _, _, rfl, SqL.of (s6 _ _ e3), fun p7 hp7 => ?_⟩
      rw [show (some (4 : Int)) = some ((4 : Nat) : Int) from rfl, cutS_from 4]
      have s7 : Same H6 (upd H6 p7 (.lst ((ws.drop 4).map V.str))) := same_new hp7
      have e7 : (upd H6 p7 (.lst ((ws.drop 4).map V.str))) p7 = some (.lst ((ws.drop 4).map V.str)) := upd_same
      refine ⟨p7, rfl, ⟨_, SqL.of upd_same⟩, ?_⟩
      show CompW _ _ _ _ _ _ (upd H6 p7 (.lst ((ws.drop 4).map V.str)))
      generalize upd H6 p7 (.lst ((ws.drop 4).map V.str)) = H7 at s7 e7
      have ldr : (ws.drop 4).length = ws.length - 4 := List.length_drop ..
      refine comp_valsS (ys := ((ws.drop 4).map wayV).map V.int) (wk_list (K := K) (SqL.of e7)) (by rw [List.length_map, ldr]; exact small12 (by omega)) (by simp) (fun j x y H8 ex ey s8 Q' q' => ?_) (fun H8 xD s8 hxD => ?_)
      · rw [List.getElem?_map] at ex ey
        rw [List.getElem?_map] at ey
        cases er : (ws.drop 4)[j]? with
        | none => rw [er] at ex; cases ex
        | some w =>
          rw [er] at ex ey
          cases ex
          cases ey
          exact ⟨_, rfl, w, rfl, wa w (List.mem_of_mem_drop (List.mem_of_getElem? er)), q' _ (Same.refl _)⟩
      have s9 : Same H6 (upd H8 xD (.lst (((ws.drop 4).map wayV).map V.int))) := same_upd (s7.trans s8) ((s7.trans s8).free hxD)
      have e9 : (upd H8 xD (.lst (((ws.drop 4).map wayV).map V.int))) xD = some (.lst (((ws.drop 4).map wayV).map V.int)) := upd_same
      show gName _ _ _ (upd H8 xD (.lst (((ws.drop 4).map wayV).map V.int))) _
      generalize upd H8 xD (.lst (((ws.drop 4).map wayV).map V.int)) = H9 at s9 e9
      have s29 : Same H2 H9 := (s3.trans s6).trans s9
      have eN := s9 _ _ e6
      have lx : ((ws.drop 4).map wayV).length = ws.length - 4 := by rw [List.length_map, ldr]
      have nin : ∀ w ∈ ws.take 3, numV w ∈ nums3 ws := fun w hw => by rw [← en]; exact List.mem_map.mpr ⟨w, hw, rfl⟩
      have xin : ∀ w ∈ ws.drop 4, wayV w ∈ (ws.drop 4).map wayV := fun w hw => List.mem_map.mpr ⟨w, hw, rfl⟩
      refine ⟨_, rfl, nD, nums3 ws, rfl, SqL.of eN, (by show 0 < 3; decide), fun M1 hM1 hM1' => ?_⟩
      refine ⟨_, _, rfl, rfl, _, rfl, ?_⟩
      by_cases f1 : M1 < 0
      case pos =>
        rw [decide_eq_true f1]
        refine iteT ?_
        refine iteT ?_
        refine bad (fun o => ?_) _ s29
        rw [← en] at hM1
        obtain ⟨w, hw, e⟩ := List.mem_map.mp hM1
        have := o.n w hw
        omega
      rw [decide_eq_false f1]
      refine iteF ?_
      refine ⟨_, rfl, xD, _, rfl, SqL.of e9, (by rw [lx]; omega), fun M2 hM2 hM2' => ?_⟩
      refine ⟨_, rfl, _, _, rfl, rfl, _, rfl, ?_⟩
      by_cases f2 : M2 < -1
      case pos =>
        rw [decide_eq_true f2]
        refine iteT ?_
        refine iteT ?_
        refine bad (fun o => ?_) _ s29
        obtain ⟨w, hw, e⟩ := List.mem_map.mp hM2
        have := (o.e w hw).1
        omega
      rw [decide_eq_false f2]
      refine iteF ?_
      refine ⟨_, rfl, xD, _, rfl, SqL.of e9, (by rw [lx]; omega), fun M3 hM3 hM3' => ?_⟩
      refine ⟨_, rfl, _, _, rfl, rfl, _, rfl, ?_⟩
      by_cases f3 : M3 ≥ (tl.length : Int)
      case pos =>
        rw [decide_eq_true f3]
        refine iteT ?_
        refine iteT ?_
        refine bad (fun o => ?_) _ s29
        obtain ⟨w, hw, e⟩ := List.mem_map.mp hM3
        have := (o.e w hw).2
        omega
      rw [decide_eq_false f3]
      refine iteF ?_
      refine ⟨_, rfl, _, _, _, _, rfl, rfl, SqL.of eN, at_list (n := 0) rfl rfl, _, rfl, _, _, rfl, .inl (SqL.of e9), _, _, rfl, rfl, _, rfl, ?_⟩
      rw [List.length_map (f := V.int), lx]
      have g0 : numV (ws.getD 0 Str.empty) < (((ws.drop 4).length : Nat) : Int) ↔ ¬ numV (ws.getD 0 Str.empty) ≥ ((ws.length - 4 : Nat) : Int) := by rw [ldr]; omega
      by_cases f4 : numV (ws.getD 0 Str.empty) ≥ ((ws.length - 4 : Nat) : Int)
      case pos =>
        rw [decide_eq_true f4]
        refine iteT ?_
        exact bad (fun o => (g0.mp o.t) f4) _ s29
      rw [decide_eq_false f4]
      refine iteF ?_
      have good : LOk tl.length (spl ln) := by
        rw [hws]
        refine ⟨by omega, by omega, by rw [e33, d3], fun w hw => ?_, fun w hw => ⟨?_, ?_⟩, g0.mpr f4⟩
        · have := hM1' _ (nin w hw); omega
        · have := hM2' _ (xin w hw); omega
        · have := hM3' _ (xin w hw); omega
      refine ⟨_, rfl, _, rfl, _, _, _, _, rfl, rfl, SqL.of eN, at_list (n := 1) rfl rfl, _, _, rfl, rfl, ?_⟩
      refine ⟨some (.str ln), some (.ref w0), some (.ref nD), some (.ref xD), ?_, s2.trans s29, fun ln' hl' => ?_⟩
      · have es : (colT 1 (tl.take (i + 1))).sum = (colT 1 (tl.take i)).sum + numV (ws.getD 1 Str.empty) := by
          rw [List.take_add_one, er]
          unfold colT
          rw [List.map_append, List.sum_append, ← hws]
          simp
        rw [es]
        rfl
      · rw [List.take_add_one, er] at hl'
        rcases List.mem_append.mp hl' with h | h
        · exact ok ln' h
        · have : ln' = ln := by simpa using h
          rw [this]; exact good
    · rintro σ' H2 ⟨x4, x5, x6, x7, rfl, s2, ok⟩
      rw [List.length_map, List.take_of_length_le (Nat.le_refl _)] at *
      refine ⟨_, rfl, _, _, rfl, rfl, ?_⟩
      have wr : (colT 1 tl).sum ≤ 400 ↔ Wr z := by
        constructor
        · intro hs
          exact ⟨by rw [hh0]; exact hk, by rw [htl]; omega, by rw [htl]; omega, by rw [htl]; exact ok, by rw [htl]; exact hs⟩
        · intro W
          have := W.sum
          rw [htl] at this
          exact this
      dsimp only
      by_cases f5 : (colT 1 tl).sum ≤ 400
      · rw [decide_eq_true f5]
        exact qT (wr.mp f5) _ (s1.trans s2)
      · rw [decide_eq_false f5]
        exact qF (fun W => f5 (wr.mpr W)) _ (s1.trans s2)
theorem okh_writes (T : Txt K mg A) (GH_number : FnH P w K mg base 1 A.f_number A.fd_number ["word"] spNumL) (GH_exit : FnH P w K mg base 2 A.f_exit A.fd_exit ["word"] spExitL) : FnH P w K mg base 3 A.f_writes A.fd_writes ["signs"] spWrites := by
  refine T.F_writes.okH sc_writes (fun vs H Q E h => ?_) (fun cdv A' outer s H vs Q hr h => ?_)
  · obtain ⟨z, rfl, _⟩ := h
    rfl
  · obtain ⟨z, rfl, Az, qT, qF⟩ := h
    have lz := Az.l
    obtain ⟨spA, spL⟩ := Az.split 10
    change ∀ w ∈ lns z, Asc 20000 w at spA
    change (lns z).length ≤ 20000 + 1 at spL
    have ez : lns z = (lns z).headD Str.empty :: (lns z).tail := headD_tail (lns_ne z)
    have hA0 : Asc 20000 ((lns z).headD Str.empty) := spA _ (by rw [ez]; exact List.mem_cons_self)
    have hAt : ∀ ln ∈ (lns z).tail, Asc 20000 ln := fun ln hl => spA ln (List.mem_of_mem_tail hl)
    refine ⟨_, (pss_cons (ps_set (i := 1) sc_writes.nd rfl (Or.inl rfl) (pe_bm PySem.F.plainAttrs_str PySem.F.slot_str_split PySem.F.type_str_split mt_split (pv 0) (pa_cons pe_str pa_nil)))
      (pss_cons (ps_set (i := 2) sc_writes.nd rfl (Or.inl rfl) (pe_op op_sub (pe_callB (call_lenK (K := K) rfl) (by rfl) T.n_len PySem.boot_len (pa_cons (pv 1) pa_nil)) pe_int))
      (pss_cons (ps_if (PW.pt (pw_or (pt_cmpR op_ne (pe_slice sl_str (pe_ix (ix_listK (K := K) rfl) (pv 1) pe_int (fun _ _ => rfl)) po_none (po_some pe_int)) pe_str (nomark _)) (pw_or (pt_cmpR op_lt (pe_callHH GH_number rfl (by exact RoomH.mono hr (by decide)) (by rfl) T.m__law_number T.k__law_number T.b__law_number (pa_cons (pe_slice sl_str (pe_ix (ix_listK (K := K) rfl) (pv 1) pe_int (fun _ _ => rfl)) (po_some pe_int) po_none) pa_nil)) pe_int (nomark _)) (pw_or (pt_cmpR op_lt (pv 2) pe_int (nomark _)) (pw_or1 (pt_cmpR op_gt (pv 2) pe_int (nomark _)))))))
        (pss_one (ps_ret pe_bl))
        pss_nil)
      (pss_cons (ps_set (i := 3) sc_writes.nd rfl (Or.inl rfl) pe_int)
      (pss_cons (ps_for PassesOwn.leaving rfl (pi_listK (K := K) rfl (pe_slice (sl_listK (K := K) rfl) (pv 1) (po_some pe_int) po_none)) (pg_name (i := 4) sc_writes.nd rfl (Or.inl rfl))
        (pss_cons (ps_set (i := 5) sc_writes.nd rfl (Or.inl rfl) (pe_bm PySem.F.plainAttrs_str PySem.F.slot_str_split PySem.F.type_str_split mt_split (pv 4) (pa_cons pe_str pa_nil)))
        (pss_cons (ps_if (PW.pt (pw_or (pt_cmpR op_lt (pe_callB (call_lenK (K := K) rfl) (by rfl) T.n_len PySem.boot_len (pa_cons (pv 5) pa_nil)) pe_int (nomark _)) (pw_or (pt_cmpR op_gt (pe_callB (call_lenK (K := K) rfl) (by rfl) T.n_len PySem.boot_len (pa_cons (pv 5) pa_nil)) pe_int (nomark _)) (pw_or1 (pt_cmpR op_ne (pe_ix (ix_listK (K := K) rfl) (pv 5) pe_int (fun _ _ => rfl)) pe_str (nomark _))))))
          (pss_one (ps_ret pe_bl))
          pss_nil)
        (pss_cons (ps_setComp (i := 6) sc_writes.nd rfl rfl (CompSc.of (N' := ["word"]) (ix := [none]) rfl (by kernel_rfl)) rfl rfl rfl rfl (pi_listK (K := K) rfl (pe_slice (sl_listK (K := K) rfl) (pv 5) po_none (po_some pe_int))) (by exact fun _ _ _ _ _ => pf_nil) (by exact fun _ _ _ _ _ hI => (pe_callHH GH_number rfl (by exact RoomH.mono hr (by decide)) (by rfl) T.m__law_number T.k__law_number T.b__law_number (pa_cons (pv 0) pa_nil))))
        (pss_cons (ps_setComp (i := 7) sc_writes.nd rfl rfl (CompSc.of (N' := ["word"]) (ix := [none]) rfl (by kernel_rfl)) rfl rfl rfl rfl (pi_listK (K := K) rfl (pe_slice (sl_listK (K := K) rfl) (pv 5) (po_some pe_int) po_none)) (by exact fun _ _ _ _ _ => pf_nil) (by exact fun _ _ _ _ _ hI => (pe_callHH GH_exit rfl (by exact RoomH.mono hr (by decide)) (by rfl) T.m__law_exit T.k__law_exit T.b__law_exit (pa_cons (pv 0) pa_nil))))
        (pss_cons (ps_if (PW.pt (pw_or (pt_cmpR op_lt (pe_callB (call_minU (K := K) rfl rfl) (by rfl) T.n_min PyProof.Rows.Boot.«min» (pa_cons (pv 6) pa_nil)) pe_int (nomark _)) (pw_or (pt_cmpR op_lt (pe_callB (call_minU (K := K) rfl rfl) (by rfl) T.n_min PyProof.Rows.Boot.«min» (pa_cons (pv 7) pa_nil)) (pe_un un_neg pe_int) (nomark _)) (pw_or (pt_cmpR op_ge (pe_callB (call_maxU (K := K) rfl rfl) (by rfl) T.n_max PyProof.Rows.Boot.«max» (pa_cons (pv 7) pa_nil)) (pv 2) (nomark _)) (pw_or1 (pt_cmpR op_ge (pe_ix (ix_listK (K := K) rfl) (pv 6) pe_int (fun _ _ => rfl)) (pe_callB (call_lenK (K := K) rfl) (by rfl) T.n_len PySem.boot_len (pa_cons (pv 7) pa_nil)) (nomark _)))))))
          (pss_one (ps_ret pe_bl))
          pss_nil)
        (pss_one (ps_set (i := 3) sc_writes.nd rfl (Or.inl rfl) (pe_op op_add (pv 3) (pe_ix (ix_listK (K := K) rfl) (pv 6) pe_int (fun _ _ => rfl)))))))))))
      (pss_one (ps_ret (pe_cmpR op_le (pv 3) pe_int (nomark _))))))))), ?_⟩
    refine ⟨_, rfl, rfl, z, 10, rfl, congrArg (fun x => [V.str x]) nl_is, size_of (by omega), fun l0 hl0 => ?_⟩
    have s0 : Same H (upd H l0 (.lst ((lns z).map V.str))) := same_new hl0
    have e0 : (upd H l0 (.lst ((lns z).map V.str))) l0 = some (.lst ((lns z).map V.str)) := upd_same
    show gName _ _ _ (upd H l0 (.lst ((lns z).map V.str))) _
    generalize upd H l0 (.lst ((lns z).map V.str)) = H0 at s0 e0
    generalize hh0 : (lns z).headD Str.empty = h0 at ez hA0
    generalize htl : (lns z).tail = tl at ez hAt
    have wA : ∀ ln, Asc 20000 ln → (∀ w ∈ spl ln, Asc 20000 w) ∧ (spl ln).length ≤ 20001 := fun ln A => A.split 32
    have hlen : (lns z).length = tl.length + 1 := by rw [ez]; rfl
    have a0 : atI ((lns z).map V.str) 0 = some (V.str h0) := at_list (n := 0) rfl (by rw [ez]; rfl)
    have lh := hA0.l
    refine ⟨_, rfl, _, _, rfl, .inl (SqL.of e0), _, _, rfl, rfl, ?_⟩
    have em : (((lns z).map V.str).length : Int) - 1 = (tl.length : Int) := by rw [List.length_map, hlen]; omega
    dsimp only
    rw [em]
    refine ⟨_, rfl, _, _, _, _, rfl, rfl, SqL.of e0, a0, _, rfl, _, rfl, size_of (by omega), rfl, _, rfl, ?_⟩
    by_cases c1 : Txt.slice h0 none (some 6) = Str.ofString "board "
    case neg =>
      rw [decide_eq_false (show ¬ V.str (Txt.slice h0 none (some 6)) = V.str (Str.ofString "board ") from fun h => c1 (by injection h))]
      refine iteT ?_
      refine iteT ?_
      exact qF (fun W => c1 (by have := W.h; rw [hh0] at this; exact ((head_by h0).mp this).1)) _ s0
    rw [decide_eq_true (show V.str (Txt.slice h0 none (some 6)) = V.str (Str.ofString "board ") by rw [c1])]
    refine iteF ?_
    refine ⟨_, rfl, _, _, _, _, rfl, rfl, SqL.of e0, a0, _, rfl, _, rfl, size_of (by omega), _, rfl, hA0.slice _ _, _, _, rfl, rfl, _, rfl, ?_⟩
    by_cases c2 : numV (Txt.slice h0 (some 6) none) < 0
    case pos =>
      rw [decide_eq_true c2]
      refine iteT ?_
      refine iteT ?_
      exact qF (fun W => absurd (isNum_iff.mp ((head_by h0).mp (by have := W.h; rw [hh0] at this; exact this)).2) (by omega)) _ s0
    rw [decide_eq_false c2]
    refine iteF ?_
    have hk : HOk1 (spl h0) := (head_by h0).mpr ⟨c1, isNum_iff.mpr (by omega)⟩
    refine ⟨_, rfl, _, _, rfl, rfl, _, rfl, ?_⟩
    by_cases c3 : (tl.length : Int) < 1
    case pos =>
      rw [decide_eq_true c3]
      refine iteT ?_
      refine iteT ?_
      exact qF (fun W => by have := W.m1; rw [htl] at this; omega) _ s0
    rw [decide_eq_false c3]
    refine iteF ?_
    refine ⟨_, rfl, _, _, rfl, rfl, _, rfl, ?_⟩
    by_cases c4 : (tl.length : Int) > 12
    case pos =>
      rw [decide_eq_true c4]
      refine iteT ?_
      exact qF (fun W => by have := W.m12; rw [htl] at this; omega) _ s0
    rw [decide_eq_false c4]
    refine iteF ?_
    refine ⟨_, rfl, _, rfl, _, _, rfl, SqL.of e0, fun p1 hp1 => ?_⟩
    rw [show (some (1 : Int)) = some ((1 : Nat) : Int) from rfl, cutS_from 1]
    have e1' : (lns z).drop 1 = tl := by rw [ez]; rfl
    rw [e1']
    have s1 : Same H (upd H0 p1 (.lst (tl.map V.str))) := same_upd s0 (s0.free hp1)
    have e1 : (upd H0 p1 (.lst (tl.map V.str))) p1 = some (.lst (tl.map V.str)) := upd_same
    refine ⟨p1, rfl, ⟨_, SqL.of upd_same⟩, ?_⟩
    show ∃ W : Nat → Nat → St → Hp → Prop, (∃ m, W 0 m _ (upd H0 p1 (.lst (tl.map V.str)))) ∧ _
    generalize upd H0 p1 (.lst (tl.map V.str)) = H1 at s1 e1
    refine for_list (K := K) (a := p1) (xs := tl.map V.str) (fun i σ' H2 => ∃ x4 x5 x6 x7 : Option V, σ' = [some (.str z), some (.ref l0), some (.int (tl.length : Int)), some (.int (colT 1 (tl.take i)).sum), x4, x5, x6, x7] ∧ Same H1 H2 ∧ ∀ ln ∈ tl.take i, LOk tl.length (spl ln)) ⟨none, none, none, none, (by rfl), Same.refl _, by simp⟩ (fun i σ' H2 _ ⟨_, _, _, _, _, s, _⟩ => SqL.of (s _ _ e1)) ?_ ?_
    · rintro i x σ' H2 ex ⟨x4, x5, x6, x7, rfl, s2, ok⟩
      rw [List.getElem?_map] at ex
      cases er : tl[i]? with
      | none => rw [er] at ex; cases ex
      | some ln =>
      rw [er] at ex
      cases ex
      have hm := List.mem_of_getElem? er
      have Al := hAt ln hm
      have ll := Al.l
      obtain ⟨wa, wl⟩ := wA ln Al
      have s02 := s1.trans s2
      have bad : ¬ LOk tl.length (spl ln) → ∀ H', Same H2 H' → Q (.bl false) H' := fun n H' s' => qF (fun W => n (by have := W.ok ln (by rw [htl]; exact hm); rw [htl] at this; exact this)) _ (s02.trans s')
      refine ⟨_, rfl, rfl, ln, 32, rfl, congrArg (fun x => [V.str x]) sp_is, size_of (by omega), fun w0 hw0 => ?_⟩
      have s3 : Same H2 (upd H2 w0 (.lst ((spl ln).map V.str))) := same_new hw0
      have e3 : (upd H2 w0 (.lst ((spl ln).map V.str))) w0 = some (.lst ((spl ln).map V.str)) := upd_same
      show gName _ _ _ (upd H2 w0 (.lst ((spl ln).map V.str))) _
      generalize upd H2 w0 (.lst ((spl ln).map V.str)) = H3 at s3 e3
      generalize hws : spl ln = ws at wa wl e3 bad
      have hml : (ws.map V.str).length = ws.length := List.length_map ..
      refine ⟨_, rfl, _, _, rfl, .inl (SqL.of e3), _, _, rfl, rfl, _, rfl, ?_⟩
      rw [hml]
      by_cases d1 : (ws.length : Int) < 5
      case pos =>
        rw [decide_eq_true d1]
        refine iteT ?_
        refine iteT ?_
        exact bad (fun o => by have := o.l5; omega) _ s3
      rw [decide_eq_false d1]
      refine iteF ?_
      refine ⟨_, rfl, _, _, rfl, .inl (SqL.of e3), _, _, rfl, rfl, _, rfl, ?_⟩
      rw [hml]
      by_cases d2 : (ws.length : Int) > 12
      case pos =>
        rw [decide_eq_true d2]
        refine iteT ?_
        refine iteT ?_
        exact bad (fun o => by have := o.l12; omega) _ s3
      rw [decide_eq_false d2]
      refine iteF ?_
      have e33 : ws[3]? = some (ws.getD 3 Str.empty) := by rw [List.getD_eq_getElem?_getD, List.getElem?_eq_getElem (show 3 < ws.length by omega)]; rfl
      refine ⟨_, rfl, _, _, _, _, rfl, rfl, SqL.of e3, at_list (n := 3) rfl (by rw [List.getElem?_map, e33]; rfl), rfl, _, rfl, ?_⟩
      by_cases d3 : ws.getD 3 Str.empty = Str.ofString ">"
      case neg =>
        rw [decide_eq_false (show ¬ V.str (ws.getD 3 Str.empty) = V.str (Str.ofString ">") from fun h => d3 (by injection h))]
        refine iteT ?_
        exact bad (fun o => d3 (by have := o.gt; rw [e33] at this; exact Option.some.inj this)) _ s3
      rw [decide_eq_true (show V.str (ws.getD 3 Str.empty) = V.str (Str.ofString ">") by rw [d3])]
      refine iteF ?_
      refine ⟨_, rfl, _, rfl, _, _, rfl, SqL.of e3, fun p4 hp4 => ?_⟩
      rw [show (some (3 : Int)) = some ((3 : Nat) : Int) from rfl, cutS_to 3]
      have s4 : Same H3 (upd H3 p4 (.lst ((ws.take 3).map V.str))) := same_new hp4
      have e4 : (upd H3 p4 (.lst ((ws.take 3).map V.str))) p4 = some (.lst ((ws.take 3).map V.str)) := upd_same
      refine ⟨p4, rfl, ⟨_, SqL.of upd_same⟩, ?_⟩
      show CompW _ _ _ _ _ _ (upd H3 p4 (.lst ((ws.take 3).map V.str)))
      generalize upd H3 p4 (.lst ((ws.take 3).map V.str)) = H4 at s4 e4
      refine comp_valsS (ys := ((ws.take 3).map numV).map V.int) (wk_list (K := K) (SqL.of e4)) (by rw [List.length_map]; exact small12 (by rw [List.length_take]; omega)) (by simp) (fun j x y H5 ex ey s5 Q' q' => ?_) (fun H5 nD s5 hnD => ?_)
      · rw [List.getElem?_map] at ex ey
        rw [List.getElem?_map] at ey
        cases er : (ws.take 3)[j]? with
        | none => rw [er] at ex; cases ex
        | some w =>
          rw [er] at ex ey
          cases ex
          cases ey
          exact ⟨_, rfl, w, rfl, wa w (List.mem_of_mem_take (List.mem_of_getElem? er)), q' _ (Same.refl _)⟩
      have en : ((ws.take 3).map numV) = nums3 ws := nums3_is (by omega)
      rw [en]
      have s6 : Same H3 (upd H5 nD (.lst ((nums3 ws).map V.int))) := same_upd (s4.trans s5) ((s4.trans s5).free hnD)
      have e6 : (upd H5 nD (.lst ((nums3 ws).map V.int))) nD = some (.lst ((nums3 ws).map V.int)) := upd_same
      show gName _ _ _ (upd H5 nD (.lst ((nums3 ws).map V.int))) _
      generalize upd H5 nD (.lst ((nums3 ws).map V.int)) = H6 at s6 e6
      refine ⟨_, rfl, _, rfl, _, _, rfl, SqL.of (s6 _ _ e3), fun p7 hp7 => ?_⟩
      rw [show (some (4 : Int)) = some ((4 : Nat) : Int) from rfl, cutS_from 4]
      have s7 : Same H6 (upd H6 p7 (.lst ((ws.drop 4).map V.str))) := same_new hp7
      have e7 : (upd H6 p7 (.lst ((ws.drop 4).map V.str))) p7 = some (.lst ((ws.drop 4).map V.str)) := upd_same
      refine ⟨p7, rfl, ⟨_, SqL.of upd_same⟩, ?_⟩
      show CompW _ _ _ _ _ _ (upd H6 p7 (.lst ((ws.drop 4).map V.str)))
      generalize upd H6 p7 (.lst ((ws.drop 4).map V.str)) = H7 at s7 e7
      have ldr : (ws.drop 4).length = ws.length - 4 := List.length_drop ..
      refine comp_valsS (ys := ((ws.drop 4).map wayV).map V.int) (wk_list (K := K) (SqL.of e7)) (by rw [List.length_map, ldr]; exact small12 (by omega)) (by simp) (fun j x y H8 ex ey s8 Q' q' => ?_) (fun H8 xD s8 hxD => ?_)
      · rw [List.getElem?_map] at ex ey
        rw [List.getElem?_map] at ey
        cases er : (ws.drop 4)[j]? with
        | none => rw [er] at ex; cases ex
        | some w =>
          rw [er] at ex ey
          cases ex
          cases ey
          exact ⟨_, rfl, w, rfl, wa w (List.mem_of_mem_drop (List.mem_of_getElem? er)), q' _ (Same.refl _)⟩
      have s9 : Same H6 (upd H8 xD (.lst (((ws.drop 4).map wayV).map V.int))) := same_upd (s7.trans s8) ((s7.trans s8).free hxD)
      have e9 : (upd H8 xD (.lst (((ws.drop 4).map wayV).map V.int))) xD = some (.lst (((ws.drop 4).map wayV).map V.int)) := upd_same
      show gName _ _ _ (upd H8 xD (.lst (((ws.drop 4).map wayV).map V.int))) _
      generalize upd H8 xD (.lst (((ws.drop 4).map wayV).map V.int)) = H9 at s9 e9
      have s29 : Same H2 H9 := (s3.trans s6).trans s9
      have eN := s9 _ _ e6
      have lx : ((ws.drop 4).map wayV).length = ws.length - 4 := by rw [List.length_map, ldr]
      have nin : ∀ w ∈ ws.take 3, numV w ∈ nums3 ws := fun w hw => by rw [← en]; exact List.mem_map.mpr ⟨w, hw, rfl⟩
      have xin : ∀ w ∈ ws.drop 4, wayV w ∈ (ws.drop 4).map wayV := fun w hw => List.mem_map.mpr ⟨w, hw, rfl⟩
      refine ⟨_, rfl, nD, nums3 ws, rfl, SqL.of eN, (by show 0 < 3; decide), fun M1 hM1 hM1' => ?_⟩
      refine ⟨_, _, rfl, rfl, _, rfl, ?_⟩
      by_cases f1 : M1 < 0
      case pos =>
        rw [decide_eq_true f1]
        refine iteT ?_
        refine iteT ?_
        refine bad (fun o => ?_) _ s29
        rw [← en] at hM1
        obtain ⟨w, hw, e⟩ := List.mem_map.mp hM1
        have := o.n w hw
        omega
      rw [decide_eq_false f1]
      refine iteF ?_
      refine ⟨_, rfl, xD, _, rfl, SqL.of e9, (by rw [lx]; omega), fun M2 hM2 hM2' => ?_⟩
      refine ⟨_, rfl, _, _, rfl, rfl, _, rfl, ?_⟩
      by_cases f2 : M2 < -1
      case pos =>
        rw [decide_eq_true f2]
        refine iteT ?_
        refine iteT ?_
        refine bad (fun o => ?_) _ s29
        obtain ⟨w, hw, e⟩ := List.mem_map.mp hM2
        have := (o.e w hw).1
        omega
      rw [decide_eq_false f2]
      refine iteF ?_
      refine ⟨_, rfl, xD, _, rfl, SqL.of e9, (by rw [lx]; omega), fun M3 hM3 hM3' => ?_⟩
      refine ⟨_, rfl, _, _, rfl, rfl, _, rfl, ?_⟩
      by_cases f3 : M3 ≥ (tl.length : Int)
      case pos =>
        rw [decide_eq_true f3]
        refine iteT ?_
        refine iteT ?_
        refine bad (fun o => ?_) _ s29
        obtain ⟨w, hw, e⟩ := List.mem_map.mp hM3
        have := (o.e w hw).2
        omega
      rw [decide_eq_false f3]
      refine iteF ?_
      refine ⟨_, rfl, _, _, _, _, rfl, rfl, SqL.of eN, at_list (n := 0) rfl rfl, _, rfl, _, _, rfl, .inl (SqL.of e9), _, _, rfl, rfl, _, rfl, ?_⟩
      rw [List.length_map (f := V.int), lx]
      have g0 : numV (ws.getD 0 Str.empty) < (((ws.drop 4).length : Nat) : Int) ↔ ¬ numV (ws.getD 0 Str.empty) ≥ ((ws.length - 4 : Nat) : Int) := by rw [ldr]; omega
      by_cases f4 : numV (ws.getD 0 Str.empty) ≥ ((ws.length - 4 : Nat) : Int)
      case pos =>
        rw [decide_eq_true f4]
        refine iteT ?_
        exact bad (fun o => (g0.mp o.t) f4) _ s29
      rw [decide_eq_false f4]
      refine iteF ?_
      have good : LOk tl.length (spl ln) := by
        rw [hws]
        refine ⟨by omega, by omega, by rw [e33, d3], fun w hw => ?_, fun w hw => ⟨?_, ?_⟩, g0.mpr f4⟩
        · have := hM1' _ (nin w hw); omega
        · have := hM2' _ (xin w hw); omega
        · have := hM3' _ (xin w hw); omega
      refine ⟨_, rfl, _, rfl, _, _, _, _, rfl, rfl, SqL.of eN, at_list (n := 1) rfl rfl, _, _, rfl, rfl, ?_⟩
      refine ⟨some (.str ln), some (.ref w0), some (.ref nD), some (.ref xD), ?_, s2.trans s29, fun ln' hl' => ?_⟩
      · have es : (colT 1 (tl.take (i + 1))).sum = (colT 1 (tl.take i)).sum + numV (ws.getD 1 Str.empty) := by
          rw [List.take_add_one, er]
          unfold colT
          rw [List.map_append, List.sum_append, ← hws]
          simp
        rw [es]
        rfl
      · rw [List.take_add_one, er] at hl'
        rcases List.mem_append.mp hl' with h | h
        · exact ok ln' h
        · have : ln' = ln := by simpa using h
          rw [this]; exact good
    · rintro σ' H2 ⟨x4, x5, x6, x7, rfl, s2, ok⟩
      rw [List.length_map, List.take_of_length_le (Nat.le_refl _)] at *
      refine ⟨_, rfl, _, _, rfl, rfl, ?_⟩
      have wr : (colT 1 tl).sum ≤ 400 ↔ Wr z := by
        constructor
        · intro hs
          exact ⟨by rw [hh0]; exact hk, by rw [htl]; omega, by rw [htl]; omega, by rw [htl]; exact ok, by rw [htl]; exact hs⟩
        · intro W
          have := W.sum
          rw [htl] at this
          exact this
      dsimp only
      by_cases f5 : (colT 1 tl).sum ≤ 400
      · rw [decide_eq_true f5]
        exact qT (wr.mp f5) _ (s1.trans s2)
      · rw [decide_eq_false f5]
        exact qF (fun W => f5 (wr.mpr W)) _ (s1.trans s2)
theorem sc_odd : FnScope ["script", "site", "some", "many"] ["script"] (defScope s_odd) := ⟨rfl, rfl, rfl, by decide +kernel, rfl, by decide +kernel, by decide +kernel⟩
theorem ok_odd (T : Txt K mg A) (G_drawn : FnOk P w K mg base CX0 1 A.f_drawn A.fd_drawn ["script", "k", "many"] (spDrawn K)) : FnOk P w K mg base CX0 2 A.f_odd A.fd_odd ["script"] (spOdd K) := by
  refine T.F_odd.ok sc_odd (fun vs H Q E h => ?_) (fun cdv A' outer s H vs Q E hr h => ?_)
  · obtain ⟨a, ns, rfl, _⟩ := h
    rfl
  · obtain ⟨a, ns, rfl, hS, q⟩ := h
    have y0 := drawn_nn ns 520 (many := 3) (by decide)
    have y1 := drawn_lt ns 520 (many := 3) (by decide)
    refine ⟨_, (pss_cons (ps_set (i := 1) sc_odd.nd rfl (Or.inl rfl) pe_str)
      (pss_cons (ps_set (i := 2) sc_odd.nd rfl (Or.inl rfl) (pe_lst (pa_cons pe_str (pa_cons pe_str (pa_cons pe_str (pa_cons pe_str (pa_cons pe_str (pa_cons (pe_op op_add_str (pe_op op_add_str pe_str (pv 1)) pe_str) (pa_cons (pe_op op_add_str pe_str (pv 1)) pa_nil)))))))))
      (pss_cons (ps_set (i := 2) sc_odd.nd rfl (Or.inl rfl) (pe_op op_cat (pv 2) (pe_lst (pa_cons pe_str (pa_cons pe_str (pa_cons (pe_op op_add_str pe_str (pv 1)) (pa_cons (pe_op op_add_str pe_str (pv 1)) (pa_cons (pe_op op_add_str pe_str (pv 1)) pa_nil))))))))
      (pss_cons (ps_set (i := 2) sc_odd.nd rfl (Or.inl rfl) (pe_op op_cat (pv 2) (pe_lst (pa_cons pe_str (pa_cons pe_str (pa_cons pe_str (pa_cons pe_str pa_nil)))))))
      (pss_cons (ps_set (i := 2) sc_odd.nd rfl (Or.inl rfl) (pe_op op_cat (pv 2) (pe_lst (pa_cons pe_str (pa_cons (pe_op op_add_str pe_str (pv 1)) (pa_cons (pe_op op_add_str pe_str (pv 1)) (pa_cons pe_str (pa_cons (pv 1) pa_nil))))))))
      (pss_cons (ps_set (i := 2) sc_odd.nd rfl (Or.inl rfl) (pe_op op_cat (pv 2) (pe_lst (pa_cons (pe_op op_add_str pe_str (pe_op op_mul_str pe_str pe_int)) (pa_cons (pe_op op_add_str (pe_op op_add_str pe_str (pe_op op_mul_str pe_str pe_int)) (pv 1)) (pa_cons (pe_op op_add_str (pe_op op_add_str pe_str (pv 1)) (pe_op op_mul_str pe_str pe_int)) pa_nil))))))
      (pss_cons (ps_set (i := 2) sc_odd.nd rfl (Or.inl rfl) (pe_op op_cat (pv 2) (pe_lst (pa_cons (pe_op op_add_str pe_str (pe_op op_mul_str (pv 1) (pe_op op_add pe_int (pe_call G_drawn (hr.mono (by decide)) (by rfl) T.m__law_drawn T.k__law_drawn T.b__law_drawn .nil pass0 (pa_cons (pv 0) (pa_cons pe_int (pa_cons pe_int pa_nil))))))) (pa_cons pe_str pa_nil)))))
      (pss_cons (ps_set (i := 3) sc_odd.nd rfl (Or.inl rfl) (pe_op op_add_str pe_str (pe_op op_mul_str pe_str pe_int)))
      (pss_cons (ps_set (i := 2) sc_odd.nd rfl (Or.inl rfl) (pe_op op_cat (pv 2) (pe_lst (pa_cons (pe_op op_add_str (pe_op op_add_str pe_str (pv 3)) pe_str) (pa_cons (pe_op op_add_str (pe_op op_add_str pe_str (pv 3)) pe_str) (pa_cons (pe_op op_add_str pe_str (pv 1)) pa_nil))))))
      (pss_cons (ps_set (i := 2) sc_odd.nd rfl (Or.inl rfl) (pe_op op_cat (pv 2) (pe_lst (pa_cons pe_str (pa_cons pe_str (pa_cons pe_str (pa_cons pe_str pa_nil)))))))
      (pss_one (ps_ret (pe_ix (ix_listK (K := K) rfl) (pv 2) (pe_call G_drawn (hr.mono (by decide)) (by rfl) T.m__law_drawn T.k__law_drawn T.b__law_drawn .nil pass0 (pa_cons (pv 0) (pa_cons pe_int (pa_cons (pe_callB (call_lenK (K := K) rfl) (by rfl) T.n_len PySem.boot_len (pa_cons (pv 2) pa_nil)) pa_nil)))) (fun _ _ => rfl)))))))))))))), ?_⟩
    have Asite : Asc 100 (Str.ofString "\n0 0 0 > pit") := asc_k
    show gName _ (V.str (Str.ofString "\n0 0 0 > pit")) _ _ _
    generalize (Str.ofString "\n0 0 0 > pit") = site' at Asite
    refine ⟨_, rfl, _, _, rfl, rfl, sz2 asc_k Asite, _, _, rfl, rfl, sz2 ((asc_k).cat Asite) asc_k, _, rfl, _, _, rfl, rfl, sz2 asc_k Asite, small12 (by show 7 ≤ 100; decide), fun l1 h1 => ?_⟩
    have e1 : (upd H l1 (.lst (([(Str.ofString ""), (Str.ofString "board"), (Str.ofString "board 0"), (Str.ofString "board 0\n"), (Str.ofString "board 0\n0 0 0 >"), (((Str.ofString "board 0") ++ site') ++ (Str.ofString "\n")), ((Str.ofString "BOARD 0") ++ site')] : List Str).map V.str))) l1 = some (.lst (([(Str.ofString ""), (Str.ofString "board"), (Str.ofString "board 0"), (Str.ofString "board 0\n"), (Str.ofString "board 0\n0 0 0 >"), (((Str.ofString "board 0") ++ site') ++ (Str.ofString "\n")), ((Str.ofString "BOARD 0") ++ site')] : List Str).map V.str)) := upd_same
    have s01 : Same H (upd H l1 (.lst (([(Str.ofString ""), (Str.ofString "board"), (Str.ofString "board 0"), (Str.ofString "board 0\n"), (Str.ofString "board 0\n0 0 0 >"), (((Str.ofString "board 0") ++ site') ++ (Str.ofString "\n")), ((Str.ofString "BOARD 0") ++ site')] : List Str).map V.str))) := same_new h1
    have P1 : ∀ z ∈ ([(Str.ofString ""), (Str.ofString "board"), (Str.ofString "board 0"), (Str.ofString "board 0\n"), (Str.ofString "board 0\n0 0 0 >"), (((Str.ofString "board 0") ++ site') ++ (Str.ofString "\n")), ((Str.ofString "BOARD 0") ++ site')] : List Str), Asc 20000 z := fun z hz => by
      simp only [List.mem_cons, List.not_mem_nil, or_false] at hz
      rcases hz with rfl | rfl | rfl | rfl | rfl | rfl | rfl
      · exact Asc.le asc_k (by decide)
      · exact Asc.le asc_k (by decide)
      · exact Asc.le asc_k (by decide)
      · exact Asc.le asc_k (by decide)
      · exact Asc.le asc_k (by decide)
      · exact ((((asc_k).cat Asite).cat asc_k)).le (by decide)
      · exact (((asc_k).cat Asite)).le (by decide)
    have n1 : ([(Str.ofString ""), (Str.ofString "board"), (Str.ofString "board 0"), (Str.ofString "board 0\n"), (Str.ofString "board 0\n0 0 0 >"), (((Str.ofString "board 0") ++ site') ++ (Str.ofString "\n")), ((Str.ofString "BOARD 0") ++ site')] : List Str).length = 7 := rfl
    show gName _ _ _ (upd H l1 (.lst (([(Str.ofString ""), (Str.ofString "board"), (Str.ofString "board 0"), (Str.ofString "board 0\n"), (Str.ofString "board 0\n0 0 0 >"), (((Str.ofString "board 0") ++ site') ++ (Str.ofString "\n")), ((Str.ofString "BOARD 0") ++ site')] : List Str).map V.str))) _
    generalize upd H l1 (.lst (([(Str.ofString ""), (Str.ofString "board"), (Str.ofString "board 0"), (Str.ofString "board 0\n"), (Str.ofString "board 0\n0 0 0 >"), (((Str.ofString "board 0") ++ site') ++ (Str.ofString "\n")), ((Str.ofString "BOARD 0") ++ site')] : List Str).map V.str)) = H1 at e1 s01
    generalize ([(Str.ofString ""), (Str.ofString "board"), (Str.ofString "board 0"), (Str.ofString "board 0\n"), (Str.ofString "board 0\n0 0 0 >"), (((Str.ofString "board 0") ++ site') ++ (Str.ofString "\n")), ((Str.ofString "BOARD 0") ++ site')] : List Str) = L1 at e1 P1 n1
    refine ⟨_, rfl, _, rfl, _, _, rfl, rfl, sz2 asc_k Asite, _, rfl, _, _, rfl, rfl, sz2 asc_k Asite, _, rfl, _, _, rfl, rfl, sz2 asc_k Asite, small12 (by show 5 ≤ 100; decide), fun l2a h2a => ⟨_, l2a, _, _, rfl, rfl, same_new h2a _ _ e1, upd_same, size_of (by rw [List.length_map, n1]; show 7 + 5 ≤ 1000000; decide), fun l2 h2 => ?_⟩⟩
    have P2 : ∀ z ∈ L1 ++ ([(Str.ofString "board 0\n0 0 0 > PIT"), (Str.ofString "board 0\n0 0 0 > -1"), ((Str.ofString "board +0") ++ site'), ((Str.ofString "board 00") ++ site'), ((Str.ofString "board") ++ site')] : List Str), Asc 20000 z := fun z hz => by
      rcases List.mem_append.mp hz with hz | hz
      · exact P1 z hz
      simp only [List.mem_cons, List.not_mem_nil, or_false] at hz
      rcases hz with rfl | rfl | rfl | rfl | rfl
      · exact Asc.le asc_k (by decide)
      · exact Asc.le asc_k (by decide)
      · exact (((asc_k).cat Asite)).le (by decide)
      · exact (((asc_k).cat Asite)).le (by decide)
      · exact (((asc_k).cat Asite)).le (by decide)
    have n2 : (L1 ++ ([(Str.ofString "board 0\n0 0 0 > PIT"), (Str.ofString "board 0\n0 0 0 > -1"), ((Str.ofString "board +0") ++ site'), ((Str.ofString "board 00") ++ site'), ((Str.ofString "board") ++ site')] : List Str)).length = 12 := by rw [List.length_append, n1]; rfl
    have e2 : (upd (upd H1 l2a (.lst (([(Str.ofString "board 0\n0 0 0 > PIT"), (Str.ofString "board 0\n0 0 0 > -1"), ((Str.ofString "board +0") ++ site'), ((Str.ofString "board 00") ++ site'), ((Str.ofString "board") ++ site')] : List Str).map V.str))) l2 (.lst ((L1 ++ ([(Str.ofString "board 0\n0 0 0 > PIT"), (Str.ofString "board 0\n0 0 0 > -1"), ((Str.ofString "board +0") ++ site'), ((Str.ofString "board 00") ++ site'), ((Str.ofString "board") ++ site')] : List Str)).map V.str))) l2 = some (.lst ((L1 ++ ([(Str.ofString "board 0\n0 0 0 > PIT"), (Str.ofString "board 0\n0 0 0 > -1"), ((Str.ofString "board +0") ++ site'), ((Str.ofString "board 00") ++ site'), ((Str.ofString "board") ++ site')] : List Str)).map V.str)) := upd_same
    have s02 : Same H (upd (upd H1 l2a (.lst (([(Str.ofString "board 0\n0 0 0 > PIT"), (Str.ofString "board 0\n0 0 0 > -1"), ((Str.ofString "board +0") ++ site'), ((Str.ofString "board 00") ++ site'), ((Str.ofString "board") ++ site')] : List Str).map V.str))) l2 (.lst ((L1 ++ ([(Str.ofString "board 0\n0 0 0 > PIT"), (Str.ofString "board 0\n0 0 0 > -1"), ((Str.ofString "board +0") ++ site'), ((Str.ofString "board 00") ++ site'), ((Str.ofString "board") ++ site')] : List Str)).map V.str))) := s01.trans (same_upd (same_new h2a) ((same_new h2a).free h2))
    have m2 : (L1.map V.str) ++ (([(Str.ofString "board 0\n0 0 0 > PIT"), (Str.ofString "board 0\n0 0 0 > -1"), ((Str.ofString "board +0") ++ site'), ((Str.ofString "board 00") ++ site'), ((Str.ofString "board") ++ site')] : List Str).map V.str) = (L1 ++ ([(Str.ofString "board 0\n0 0 0 > PIT"), (Str.ofString "board 0\n0 0 0 > -1"), ((Str.ofString "board +0") ++ site'), ((Str.ofString "board 00") ++ site'), ((Str.ofString "board") ++ site')] : List Str)).map V.str := (List.map_append ..).symm
    show gName _ _ _ (upd (upd H1 l2a (.lst (([(Str.ofString "board 0\n0 0 0 > PIT"), (Str.ofString "board 0\n0 0 0 > -1"), ((Str.ofString "board +0") ++ site'), ((Str.ofString "board 00") ++ site'), ((Str.ofString "board") ++ site')] : List Str).map V.str))) l2 (.lst ((L1.map V.str) ++ (([(Str.ofString "board 0\n0 0 0 > PIT"), (Str.ofString "board 0\n0 0 0 > -1"), ((Str.ofString "board +0") ++ site'), ((Str.ofString "board 00") ++ site'), ((Str.ofString "board") ++ site')] : List Str).map V.str)))) _
    rw [m2]
    generalize upd (upd H1 l2a (.lst (([(Str.ofString "board 0\n0 0 0 > PIT"), (Str.ofString "board 0\n0 0 0 > -1"), ((Str.ofString "board +0") ++ site'), ((Str.ofString "board 00") ++ site'), ((Str.ofString "board") ++ site')] : List Str).map V.str))) l2 (.lst ((L1 ++ ([(Str.ofString "board 0\n0 0 0 > PIT"), (Str.ofString "board 0\n0 0 0 > -1"), ((Str.ofString "board +0") ++ site'), ((Str.ofString "board 00") ++ site'), ((Str.ofString "board") ++ site')] : List Str)).map V.str)) = H2 at e2 s02
    generalize L1 ++ ([(Str.ofString "board 0\n0 0 0 > PIT"), (Str.ofString "board 0\n0 0 0 > -1"), ((Str.ofString "board +0") ++ site'), ((Str.ofString "board 00") ++ site'), ((Str.ofString "board") ++ site')] : List Str) = L2 at e2 P2 n2
    clear m2 e1 P1 n1
    refine ⟨_, rfl, small12 (by show 4 ≤ 100; decide), fun l3a h3a => ⟨_, l3a, _, _, rfl, rfl, same_new h3a _ _ e2, upd_same, size_of (by rw [List.length_map, n2]; show 12 + 4 ≤ 1000000; decide), fun l3 h3 => ?_⟩⟩
    have P3 : ∀ z ∈ L2 ++ ([(Str.ofString "board 0\n1 0 0 > pit"), (Str.ofString "board 0\n0 401 0 > pit"), (Str.ofString "board 0\n0 400 0 > pit"), (Str.ofString "board 0\n0 0 0 > 1")] : List Str), Asc 20000 z := fun z hz => by
      rcases List.mem_append.mp hz with hz | hz
      · exact P2 z hz
      simp only [List.mem_cons, List.not_mem_nil, or_false] at hz
      rcases hz with rfl | rfl | rfl | rfl
      · exact Asc.le asc_k (by decide)
      · exact Asc.le asc_k (by decide)
      · exact Asc.le asc_k (by decide)
      · exact Asc.le asc_k (by decide)
    have n3 : (L2 ++ ([(Str.ofString "board 0\n1 0 0 > pit"), (Str.ofString "board 0\n0 401 0 > pit"), (Str.ofString "board 0\n0 400 0 > pit"), (Str.ofString "board 0\n0 0 0 > 1")] : List Str)).length = 16 := by rw [List.length_append, n2]; rfl
    have e3 : (upd (upd H2 l3a (.lst (([(Str.ofString "board 0\n1 0 0 > pit"), (Str.ofString "board 0\n0 401 0 > pit"), (Str.ofString "board 0\n0 400 0 > pit"), (Str.ofString "board 0\n0 0 0 > 1")] : List Str).map V.str))) l3 (.lst ((L2 ++ ([(Str.ofString "board 0\n1 0 0 > pit"), (Str.ofString "board 0\n0 401 0 > pit"), (Str.ofString "board 0\n0 400 0 > pit"), (Str.ofString "board 0\n0 0 0 > 1")] : List Str)).map V.str))) l3 = some (.lst ((L2 ++ ([(Str.ofString "board 0\n1 0 0 > pit"), (Str.ofString "board 0\n0 401 0 > pit"), (Str.ofString "board 0\n0 400 0 > pit"), (Str.ofString "board 0\n0 0 0 > 1")] : List Str)).map V.str)) := upd_same
    have s03 : Same H (upd (upd H2 l3a (.lst (([(Str.ofString "board 0\n1 0 0 > pit"), (Str.ofString "board 0\n0 401 0 > pit"), (Str.ofString "board 0\n0 400 0 > pit"), (Str.ofString "board 0\n0 0 0 > 1")] : List Str).map V.str))) l3 (.lst ((L2 ++ ([(Str.ofString "board 0\n1 0 0 > pit"), (Str.ofString "board 0\n0 401 0 > pit"), (Str.ofString "board 0\n0 400 0 > pit"), (Str.ofString "board 0\n0 0 0 > 1")] : List Str)).map V.str))) := s02.trans (same_upd (same_new h3a) ((same_new h3a).free h3))
    have m3 : (L2.map V.str) ++ (([(Str.ofString "board 0\n1 0 0 > pit"), (Str.ofString "board 0\n0 401 0 > pit"), (Str.ofString "board 0\n0 400 0 > pit"), (Str.ofString "board 0\n0 0 0 > 1")] : List Str).map V.str) = (L2 ++ ([(Str.ofString "board 0\n1 0 0 > pit"), (Str.ofString "board 0\n0 401 0 > pit"), (Str.ofString "board 0\n0 400 0 > pit"), (Str.ofString "board 0\n0 0 0 > 1")] : List Str)).map V.str := (List.map_append ..).symm
    show gName _ _ _ (upd (upd H2 l3a (.lst (([(Str.ofString "board 0\n1 0 0 > pit"), (Str.ofString "board 0\n0 401 0 > pit"), (Str.ofString "board 0\n0 400 0 > pit"), (Str.ofString "board 0\n0 0 0 > 1")] : List Str).map V.str))) l3 (.lst ((L2.map V.str) ++ (([(Str.ofString "board 0\n1 0 0 > pit"), (Str.ofString "board 0\n0 401 0 > pit"), (Str.ofString "board 0\n0 400 0 > pit"), (Str.ofString "board 0\n0 0 0 > 1")] : List Str).map V.str)))) _
    rw [m3]
    generalize upd (upd H2 l3a (.lst (([(Str.ofString "board 0\n1 0 0 > pit"), (Str.ofString "board 0\n0 401 0 > pit"), (Str.ofString "board 0\n0 400 0 > pit"), (Str.ofString "board 0\n0 0 0 > 1")] : List Str).map V.str))) l3 (.lst ((L2 ++ ([(Str.ofString "board 0\n1 0 0 > pit"), (Str.ofString "board 0\n0 401 0 > pit"), (Str.ofString "board 0\n0 400 0 > pit"), (Str.ofString "board 0\n0 0 0 > 1")] : List Str)).map V.str)) = H3 at e3 s03
    generalize L2 ++ ([(Str.ofString "board 0\n1 0 0 > pit"), (Str.ofString "board 0\n0 401 0 > pit"), (Str.ofString "board 0\n0 400 0 > pit"), (Str.ofString "board 0\n0 0 0 > 1")] : List Str) = L3 at e3 P3 n3
    clear m3 e2 P2 n2
    refine ⟨_, rfl, _, rfl, _, _, rfl, rfl, sz2 asc_k Asite, _, rfl, _, _, rfl, rfl, sz2 asc_k Asite, _, rfl, small12 (by show 5 ≤ 100; decide), fun l4a h4a => ⟨_, l4a, _, _, rfl, rfl, same_new h4a _ _ e3, upd_same, size_of (by rw [List.length_map, n3]; show 16 + 5 ≤ 1000000; decide), fun l4 h4 => ?_⟩⟩
    have P4 : ∀ z ∈ L3 ++ ([(Str.ofString "board 0\n0 0 0 > 0"), ((Str.ofString "board 0 ") ++ site'), ((Str.ofString " board 0") ++ site'), (Str.ofString "board 0\n0 0 0  > pit"), site'] : List Str), Asc 20000 z := fun z hz => by
      rcases List.mem_append.mp hz with hz | hz
      · exact P3 z hz
      simp only [List.mem_cons, List.not_mem_nil, or_false] at hz
      rcases hz with rfl | rfl | rfl | rfl | rfl
      · exact Asc.le asc_k (by decide)
      · exact (((asc_k).cat Asite)).le (by decide)
      · exact (((asc_k).cat Asite)).le (by decide)
      · exact Asc.le asc_k (by decide)
      · exact (Asite).le (by decide)
    have n4 : (L3 ++ ([(Str.ofString "board 0\n0 0 0 > 0"), ((Str.ofString "board 0 ") ++ site'), ((Str.ofString " board 0") ++ site'), (Str.ofString "board 0\n0 0 0  > pit"), site'] : List Str)).length = 21 := by rw [List.length_append, n3]; rfl
    have e4 : (upd (upd H3 l4a (.lst (([(Str.ofString "board 0\n0 0 0 > 0"), ((Str.ofString "board 0 ") ++ site'), ((Str.ofString " board 0") ++ site'), (Str.ofString "board 0\n0 0 0  > pit"), site'] : List Str).map V.str))) l4 (.lst ((L3 ++ ([(Str.ofString "board 0\n0 0 0 > 0"), ((Str.ofString "board 0 ") ++ site'), ((Str.ofString " board 0") ++ site'), (Str.ofString "board 0\n0 0 0  > pit"), site'] : List Str)).map V.str))) l4 = some (.lst ((L3 ++ ([(Str.ofString "board 0\n0 0 0 > 0"), ((Str.ofString "board 0 ") ++ site'), ((Str.ofString " board 0") ++ site'), (Str.ofString "board 0\n0 0 0  > pit"), site'] : List Str)).map V.str)) := upd_same
    have s04 : Same H (upd (upd H3 l4a (.lst (([(Str.ofString "board 0\n0 0 0 > 0"), ((Str.ofString "board 0 ") ++ site'), ((Str.ofString " board 0") ++ site'), (Str.ofString "board 0\n0 0 0  > pit"), site'] : List Str).map V.str))) l4 (.lst ((L3 ++ ([(Str.ofString "board 0\n0 0 0 > 0"), ((Str.ofString "board 0 ") ++ site'), ((Str.ofString " board 0") ++ site'), (Str.ofString "board 0\n0 0 0  > pit"), site'] : List Str)).map V.str))) := s03.trans (same_upd (same_new h4a) ((same_new h4a).free h4))
    have m4 : (L3.map V.str) ++ (([(Str.ofString "board 0\n0 0 0 > 0"), ((Str.ofString "board 0 ") ++ site'), ((Str.ofString " board 0") ++ site'), (Str.ofString "board 0\n0 0 0  > pit"), site'] : List Str).map V.str) = (L3 ++ ([(Str.ofString "board 0\n0 0 0 > 0"), ((Str.ofString "board 0 ") ++ site'), ((Str.ofString " board 0") ++ site'), (Str.ofString "board 0\n0 0 0  > pit"), site'] : List Str)).map V.str := (List.map_append ..).symm
    show gName _ _ _ (upd (upd H3 l4a (.lst (([(Str.ofString "board 0\n0 0 0 > 0"), ((Str.ofString "board 0 ") ++ site'), ((Str.ofString " board 0") ++ site'), (Str.ofString "board 0\n0 0 0  > pit"), site'] : List Str).map V.str))) l4 (.lst ((L3.map V.str) ++ (([(Str.ofString "board 0\n0 0 0 > 0"), ((Str.ofString "board 0 ") ++ site'), ((Str.ofString " board 0") ++ site'), (Str.ofString "board 0\n0 0 0  > pit"), site'] : List Str).map V.str)))) _
    rw [m4]
    generalize upd (upd H3 l4a (.lst (([(Str.ofString "board 0\n0 0 0 > 0"), ((Str.ofString "board 0 ") ++ site'), ((Str.ofString " board 0") ++ site'), (Str.ofString "board 0\n0 0 0  > pit"), site'] : List Str).map V.str))) l4 (.lst ((L3 ++ ([(Str.ofString "board 0\n0 0 0 > 0"), ((Str.ofString "board 0 ") ++ site'), ((Str.ofString " board 0") ++ site'), (Str.ofString "board 0\n0 0 0  > pit"), site'] : List Str)).map V.str)) = H4 at e4 s04
    generalize L3 ++ ([(Str.ofString "board 0\n0 0 0 > 0"), ((Str.ofString "board 0 ") ++ site'), ((Str.ofString " board 0") ++ site'), (Str.ofString "board 0\n0 0 0  > pit"), site'] : List Str) = L4 at e4 P4 n4
    clear m4 e3 P3 n3
    refine ⟨_, rfl, _, _, rfl, rfl, by decide, by decide, Nat.le_trans (asc_k).l (by decide), fun z1 mz1 lz1 => ?_⟩
    have Az1 := rep_asc asc_k mz1 lz1 (by decide)
    refine ⟨_, _, rfl, rfl, sz2 asc_k Az1, _, _, rfl, rfl, by decide, by decide, Nat.le_trans (asc_k).l (by decide), fun z2 mz2 lz2 => ?_⟩
    have Az2 := rep_asc asc_k mz2 lz2 (by decide)
    refine ⟨_, _, rfl, rfl, sz2 asc_k Az2, _, rfl, _, _, rfl, rfl, sz2 ((asc_k).cat Az2) Asite, _, rfl, _, _, rfl, rfl, sz2 asc_k Asite, _, _, rfl, rfl, by decide, by decide, Nat.le_trans (asc_k).l (by decide), fun z3 mz3 lz3 => ?_⟩
    have Az3 := rep_asc asc_k mz3 lz3 (by decide)
    refine ⟨_, _, rfl, rfl, sz2 ((asc_k).cat Asite) Az3, small12 (by show 3 ≤ 100; decide), fun l5a h5a => ⟨_, l5a, _, _, rfl, rfl, same_new h5a _ _ e4, upd_same, size_of (by rw [List.length_map, n4]; show 21 + 3 ≤ 1000000; decide), fun l5 h5 => ?_⟩⟩
    have P5 : ∀ z ∈ L4 ++ ([((Str.ofString "board 0\n0 0 0 >") ++ z1), (((Str.ofString "board 1") ++ z2) ++ site'), (((Str.ofString "board 9") ++ site') ++ z3)] : List Str), Asc 20000 z := fun z hz => by
      rcases List.mem_append.mp hz with hz | hz
      · exact P4 z hz
      simp only [List.mem_cons, List.not_mem_nil, or_false] at hz
      rcases hz with rfl | rfl | rfl
      · exact (((asc_k).cat Az1)).le (by decide)
      · exact ((((asc_k).cat Az2).cat Asite)).le (by decide)
      · exact ((((asc_k).cat Asite).cat Az3)).le (by decide)
    have n5 : (L4 ++ ([((Str.ofString "board 0\n0 0 0 >") ++ z1), (((Str.ofString "board 1") ++ z2) ++ site'), (((Str.ofString "board 9") ++ site') ++ z3)] : List Str)).length = 24 := by rw [List.length_append, n4]; rfl
    have e5 : (upd (upd H4 l5a (.lst (([((Str.ofString "board 0\n0 0 0 >") ++ z1), (((Str.ofString "board 1") ++ z2) ++ site'), (((Str.ofString "board 9") ++ site') ++ z3)] : List Str).map V.str))) l5 (.lst ((L4 ++ ([((Str.ofString "board 0\n0 0 0 >") ++ z1), (((Str.ofString "board 1") ++ z2) ++ site'), (((Str.ofString "board 9") ++ site') ++ z3)] : List Str)).map V.str))) l5 = some (.lst ((L4 ++ ([((Str.ofString "board 0\n0 0 0 >") ++ z1), (((Str.ofString "board 1") ++ z2) ++ site'), (((Str.ofString "board 9") ++ site') ++ z3)] : List Str)).map V.str)) := upd_same
    have s05 : Same H (upd (upd H4 l5a (.lst (([((Str.ofString "board 0\n0 0 0 >") ++ z1), (((Str.ofString "board 1") ++ z2) ++ site'), (((Str.ofString "board 9") ++ site') ++ z3)] : List Str).map V.str))) l5 (.lst ((L4 ++ ([((Str.ofString "board 0\n0 0 0 >") ++ z1), (((Str.ofString "board 1") ++ z2) ++ site'), (((Str.ofString "board 9") ++ site') ++ z3)] : List Str)).map V.str))) := s04.trans (same_upd (same_new h5a) ((same_new h5a).free h5))
    have m5 : (L4.map V.str) ++ (([((Str.ofString "board 0\n0 0 0 >") ++ z1), (((Str.ofString "board 1") ++ z2) ++ site'), (((Str.ofString "board 9") ++ site') ++ z3)] : List Str).map V.str) = (L4 ++ ([((Str.ofString "board 0\n0 0 0 >") ++ z1), (((Str.ofString "board 1") ++ z2) ++ site'), (((Str.ofString "board 9") ++ site') ++ z3)] : List Str)).map V.str := (List.map_append ..).symm
    show gName _ _ _ (upd (upd H4 l5a (.lst (([((Str.ofString "board 0\n0 0 0 >") ++ z1), (((Str.ofString "board 1") ++ z2) ++ site'), (((Str.ofString "board 9") ++ site') ++ z3)] : List Str).map V.str))) l5 (.lst ((L4.map V.str) ++ (([((Str.ofString "board 0\n0 0 0 >") ++ z1), (((Str.ofString "board 1") ++ z2) ++ site'), (((Str.ofString "board 9") ++ site') ++ z3)] : List Str).map V.str)))) _
    rw [m5]
    generalize upd (upd H4 l5a (.lst (([((Str.ofString "board 0\n0 0 0 >") ++ z1), (((Str.ofString "board 1") ++ z2) ++ site'), (((Str.ofString "board 9") ++ site') ++ z3)] : List Str).map V.str))) l5 (.lst ((L4 ++ ([((Str.ofString "board 0\n0 0 0 >") ++ z1), (((Str.ofString "board 1") ++ z2) ++ site'), (((Str.ofString "board 9") ++ site') ++ z3)] : List Str)).map V.str)) = H5 at e5 s05
    generalize L4 ++ ([((Str.ofString "board 0\n0 0 0 >") ++ z1), (((Str.ofString "board 1") ++ z2) ++ site'), (((Str.ofString "board 9") ++ site') ++ z3)] : List Str) = L5 at e5 P5 n5
    clear m5 e4 P4 n4
    refine ⟨_, rfl, _, rfl, _, rfl, a, ns, 520, 3, rfl, (s05.seq hS), by decide, by decide, by decide, _, _, rfl, rfl, _, _, rfl, rfl, by omega, by omega, Nat.le_trans Asite.l (by decide), fun z4 mz4 lz4 => ?_⟩
    have Az4 := rep_asc Asite mz4 lz4 (by omega)
    refine ⟨_, _, rfl, rfl, sz2 asc_k Az4, small12 (by show 2 ≤ 100; decide), fun l6a h6a => ⟨_, l6a, _, _, rfl, rfl, same_new h6a _ _ e5, upd_same, size_of (by rw [List.length_map, n5]; show 24 + 2 ≤ 1000000; decide), fun l6 h6 => ?_⟩⟩
    have P6 : ∀ z ∈ L5 ++ ([((Str.ofString "board 0") ++ z4), (Str.ofString "board 0\n0 0 0 > pit\n0 400 0 > 0\n0 1 0 > 1")] : List Str), Asc 20000 z := fun z hz => by
      rcases List.mem_append.mp hz with hz | hz
      · exact P5 z hz
      simp only [List.mem_cons, List.not_mem_nil, or_false] at hz
      rcases hz with rfl | rfl
      · exact (((asc_k).cat Az4)).le (by decide)
      · exact Asc.le asc_k (by decide)
    have n6 : (L5 ++ ([((Str.ofString "board 0") ++ z4), (Str.ofString "board 0\n0 0 0 > pit\n0 400 0 > 0\n0 1 0 > 1")] : List Str)).length = 26 := by rw [List.length_append, n5]; rfl
    have e6 : (upd (upd H5 l6a (.lst (([((Str.ofString "board 0") ++ z4), (Str.ofString "board 0\n0 0 0 > pit\n0 400 0 > 0\n0 1 0 > 1")] : List Str).map V.str))) l6 (.lst ((L5 ++ ([((Str.ofString "board 0") ++ z4), (Str.ofString "board 0\n0 0 0 > pit\n0 400 0 > 0\n0 1 0 > 1")] : List Str)).map V.str))) l6 = some (.lst ((L5 ++ ([((Str.ofString "board 0") ++ z4), (Str.ofString "board 0\n0 0 0 > pit\n0 400 0 > 0\n0 1 0 > 1")] : List Str)).map V.str)) := upd_same
    have s06 : Same H (upd (upd H5 l6a (.lst (([((Str.ofString "board 0") ++ z4), (Str.ofString "board 0\n0 0 0 > pit\n0 400 0 > 0\n0 1 0 > 1")] : List Str).map V.str))) l6 (.lst ((L5 ++ ([((Str.ofString "board 0") ++ z4), (Str.ofString "board 0\n0 0 0 > pit\n0 400 0 > 0\n0 1 0 > 1")] : List Str)).map V.str))) := s05.trans (same_upd (same_new h6a) ((same_new h6a).free h6))
    have m6 : (L5.map V.str) ++ (([((Str.ofString "board 0") ++ z4), (Str.ofString "board 0\n0 0 0 > pit\n0 400 0 > 0\n0 1 0 > 1")] : List Str).map V.str) = (L5 ++ ([((Str.ofString "board 0") ++ z4), (Str.ofString "board 0\n0 0 0 > pit\n0 400 0 > 0\n0 1 0 > 1")] : List Str)).map V.str := (List.map_append ..).symm
    show gName _ _ _ (upd (upd H5 l6a (.lst (([((Str.ofString "board 0") ++ z4), (Str.ofString "board 0\n0 0 0 > pit\n0 400 0 > 0\n0 1 0 > 1")] : List Str).map V.str))) l6 (.lst ((L5.map V.str) ++ (([((Str.ofString "board 0") ++ z4), (Str.ofString "board 0\n0 0 0 > pit\n0 400 0 > 0\n0 1 0 > 1")] : List Str).map V.str)))) _
    rw [m6]
    generalize upd (upd H5 l6a (.lst (([((Str.ofString "board 0") ++ z4), (Str.ofString "board 0\n0 0 0 > pit\n0 400 0 > 0\n0 1 0 > 1")] : List Str).map V.str))) l6 (.lst ((L5 ++ ([((Str.ofString "board 0") ++ z4), (Str.ofString "board 0\n0 0 0 > pit\n0 400 0 > 0\n0 1 0 > 1")] : List Str)).map V.str)) = H6 at e6 s06
    generalize L5 ++ ([((Str.ofString "board 0") ++ z4), (Str.ofString "board 0\n0 0 0 > pit\n0 400 0 > 0\n0 1 0 > 1")] : List Str) = L6 at e6 P6 n6
    clear m6 e5 P5 n5
    refine ⟨_, _, rfl, rfl, by decide, by decide, Nat.le_trans (asc_k).l (by decide), fun z5 mz5 lz5 => ?_⟩
    have Az5 := rep_asc asc_k mz5 lz5 (by decide)
    refine ⟨_, _, rfl, rfl, sz2 asc_k Az5, ?_⟩
    have Amany : Asc 2100 ((Str.ofString "1") ++ z5) := ((asc_k).cat Az5)
    show gName _ (V.str ((Str.ofString "1") ++ z5)) _ _ _
    generalize ((Str.ofString "1") ++ z5) = many' at Amany
    refine ⟨_, rfl, _, rfl, _, _, rfl, rfl, sz2 asc_k Amany, _, _, rfl, rfl, sz2 ((asc_k).cat Amany) asc_k, _, rfl, _, _, rfl, rfl, sz2 asc_k Amany, _, _, rfl, rfl, sz2 ((asc_k).cat Amany) asc_k, _, rfl, _, _, rfl, rfl, sz2 asc_k Asite, small12 (by show 3 ≤ 100; decide), fun l7a h7a => ⟨_, l7a, _, _, rfl, rfl, same_new h7a _ _ e6, upd_same, size_of (by rw [List.length_map, n6]; show 26 + 3 ≤ 1000000; decide), fun l7 h7 => ?_⟩⟩
    have P7 : ∀ z ∈ L6 ++ ([(((Str.ofString "board 0\n0 0 ") ++ many') ++ (Str.ofString " > pit")), (((Str.ofString "board 0\n0 ") ++ many') ++ (Str.ofString " 0 > pit")), ((Str.ofString "board 1_0") ++ site')] : List Str), Asc 20000 z := fun z hz => by
      rcases List.mem_append.mp hz with hz | hz
      · exact P6 z hz
      simp only [List.mem_cons, List.not_mem_nil, or_false] at hz
      rcases hz with rfl | rfl | rfl
      · exact ((((asc_k).cat Amany).cat asc_k)).le (by decide)
      · exact ((((asc_k).cat Amany).cat asc_k)).le (by decide)
      · exact (((asc_k).cat Asite)).le (by decide)
    have n7 : (L6 ++ ([(((Str.ofString "board 0\n0 0 ") ++ many') ++ (Str.ofString " > pit")), (((Str.ofString "board 0\n0 ") ++ many') ++ (Str.ofString " 0 > pit")), ((Str.ofString "board 1_0") ++ site')] : List Str)).length = 29 := by rw [List.length_append, n6]; rfl
    have e7 : (upd (upd H6 l7a (.lst (([(((Str.ofString "board 0\n0 0 ") ++ many') ++ (Str.ofString " > pit")), (((Str.ofString "board 0\n0 ") ++ many') ++ (Str.ofString " 0 > pit")), ((Str.ofString "board 1_0") ++ site')] : List Str).map V.str))) l7 (.lst ((L6 ++ ([(((Str.ofString "board 0\n0 0 ") ++ many') ++ (Str.ofString " > pit")), (((Str.ofString "board 0\n0 ") ++ many') ++ (Str.ofString " 0 > pit")), ((Str.ofString "board 1_0") ++ site')] : List Str)).map V.str))) l7 = some (.lst ((L6 ++ ([(((Str.ofString "board 0\n0 0 ") ++ many') ++ (Str.ofString " > pit")), (((Str.ofString "board 0\n0 ") ++ many') ++ (Str.ofString " 0 > pit")), ((Str.ofString "board 1_0") ++ site')] : List Str)).map V.str)) := upd_same
    have s07 : Same H (upd (upd H6 l7a (.lst (([(((Str.ofString "board 0\n0 0 ") ++ many') ++ (Str.ofString " > pit")), (((Str.ofString "board 0\n0 ") ++ many') ++ (Str.ofString " 0 > pit")), ((Str.ofString "board 1_0") ++ site')] : List Str).map V.str))) l7 (.lst ((L6 ++ ([(((Str.ofString "board 0\n0 0 ") ++ many') ++ (Str.ofString " > pit")), (((Str.ofString "board 0\n0 ") ++ many') ++ (Str.ofString " 0 > pit")), ((Str.ofString "board 1_0") ++ site')] : List Str)).map V.str))) := s06.trans (same_upd (same_new h7a) ((same_new h7a).free h7))
    have m7 : (L6.map V.str) ++ (([(((Str.ofString "board 0\n0 0 ") ++ many') ++ (Str.ofString " > pit")), (((Str.ofString "board 0\n0 ") ++ many') ++ (Str.ofString " 0 > pit")), ((Str.ofString "board 1_0") ++ site')] : List Str).map V.str) = (L6 ++ ([(((Str.ofString "board 0\n0 0 ") ++ many') ++ (Str.ofString " > pit")), (((Str.ofString "board 0\n0 ") ++ many') ++ (Str.ofString " 0 > pit")), ((Str.ofString "board 1_0") ++ site')] : List Str)).map V.str := (List.map_append ..).symm
    show gName _ _ _ (upd (upd H6 l7a (.lst (([(((Str.ofString "board 0\n0 0 ") ++ many') ++ (Str.ofString " > pit")), (((Str.ofString "board 0\n0 ") ++ many') ++ (Str.ofString " 0 > pit")), ((Str.ofString "board 1_0") ++ site')] : List Str).map V.str))) l7 (.lst ((L6.map V.str) ++ (([(((Str.ofString "board 0\n0 0 ") ++ many') ++ (Str.ofString " > pit")), (((Str.ofString "board 0\n0 ") ++ many') ++ (Str.ofString " 0 > pit")), ((Str.ofString "board 1_0") ++ site')] : List Str).map V.str)))) _
    rw [m7]
    generalize upd (upd H6 l7a (.lst (([(((Str.ofString "board 0\n0 0 ") ++ many') ++ (Str.ofString " > pit")), (((Str.ofString "board 0\n0 ") ++ many') ++ (Str.ofString " 0 > pit")), ((Str.ofString "board 1_0") ++ site')] : List Str).map V.str))) l7 (.lst ((L6 ++ ([(((Str.ofString "board 0\n0 0 ") ++ many') ++ (Str.ofString " > pit")), (((Str.ofString "board 0\n0 ") ++ many') ++ (Str.ofString " 0 > pit")), ((Str.ofString "board 1_0") ++ site')] : List Str)).map V.str)) = H7 at e7 s07
    generalize L6 ++ ([(((Str.ofString "board 0\n0 0 ") ++ many') ++ (Str.ofString " > pit")), (((Str.ofString "board 0\n0 ") ++ many') ++ (Str.ofString " 0 > pit")), ((Str.ofString "board 1_0") ++ site')] : List Str) = L7 at e7 P7 n7
    clear m7 e6 P6 n6
    refine ⟨_, rfl, small12 (by show 4 ≤ 100; decide), fun l8a h8a => ⟨_, l8a, _, _, rfl, rfl, same_new h8a _ _ e7, upd_same, size_of (by rw [List.length_map, n7]; show 29 + 4 ≤ 1000000; decide), fun l8 h8 => ?_⟩⟩
    have P8 : ∀ z ∈ L7 ++ ([(Str.ofString "board 0\n0 +1 0 > pit"), (Str.ofString "board 0\n0 1_0 0 > pit"), (Str.ofString "board 0\n0 0 0 > 0_0"), (Str.ofString "board 0\n+0 0 0 > pit")] : List Str), Asc 20000 z := fun z hz => by
      rcases List.mem_append.mp hz with hz | hz
      · exact P7 z hz
      simp only [List.mem_cons, List.not_mem_nil, or_false] at hz
      rcases hz with rfl | rfl | rfl | rfl
      · exact Asc.le asc_k (by decide)
      · exact Asc.le asc_k (by decide)
      · exact Asc.le asc_k (by decide)
      · exact Asc.le asc_k (by decide)
    have n8 : (L7 ++ ([(Str.ofString "board 0\n0 +1 0 > pit"), (Str.ofString "board 0\n0 1_0 0 > pit"), (Str.ofString "board 0\n0 0 0 > 0_0"), (Str.ofString "board 0\n+0 0 0 > pit")] : List Str)).length = 33 := by rw [List.length_append, n7]; rfl
    have e8 : (upd (upd H7 l8a (.lst (([(Str.ofString "board 0\n0 +1 0 > pit"), (Str.ofString "board 0\n0 1_0 0 > pit"), (Str.ofString "board 0\n0 0 0 > 0_0"), (Str.ofString "board 0\n+0 0 0 > pit")] : List Str).map V.str))) l8 (.lst ((L7 ++ ([(Str.ofString "board 0\n0 +1 0 > pit"), (Str.ofString "board 0\n0 1_0 0 > pit"), (Str.ofString "board 0\n0 0 0 > 0_0"), (Str.ofString "board 0\n+0 0 0 > pit")] : List Str)).map V.str))) l8 = some (.lst ((L7 ++ ([(Str.ofString "board 0\n0 +1 0 > pit"), (Str.ofString "board 0\n0 1_0 0 > pit"), (Str.ofString "board 0\n0 0 0 > 0_0"), (Str.ofString "board 0\n+0 0 0 > pit")] : List Str)).map V.str)) := upd_same
    have s08 : Same H (upd (upd H7 l8a (.lst (([(Str.ofString "board 0\n0 +1 0 > pit"), (Str.ofString "board 0\n0 1_0 0 > pit"), (Str.ofString "board 0\n0 0 0 > 0_0"), (Str.ofString "board 0\n+0 0 0 > pit")] : List Str).map V.str))) l8 (.lst ((L7 ++ ([(Str.ofString "board 0\n0 +1 0 > pit"), (Str.ofString "board 0\n0 1_0 0 > pit"), (Str.ofString "board 0\n0 0 0 > 0_0"), (Str.ofString "board 0\n+0 0 0 > pit")] : List Str)).map V.str))) := s07.trans (same_upd (same_new h8a) ((same_new h8a).free h8))
    have m8 : (L7.map V.str) ++ (([(Str.ofString "board 0\n0 +1 0 > pit"), (Str.ofString "board 0\n0 1_0 0 > pit"), (Str.ofString "board 0\n0 0 0 > 0_0"), (Str.ofString "board 0\n+0 0 0 > pit")] : List Str).map V.str) = (L7 ++ ([(Str.ofString "board 0\n0 +1 0 > pit"), (Str.ofString "board 0\n0 1_0 0 > pit"), (Str.ofString "board 0\n0 0 0 > 0_0"), (Str.ofString "board 0\n+0 0 0 > pit")] : List Str)).map V.str := (List.map_append ..).symm
    show gName _ _ _ (upd (upd H7 l8a (.lst (([(Str.ofString "board 0\n0 +1 0 > pit"), (Str.ofString "board 0\n0 1_0 0 > pit"), (Str.ofString "board 0\n0 0 0 > 0_0"), (Str.ofString "board 0\n+0 0 0 > pit")] : List Str).map V.str))) l8 (.lst ((L7.map V.str) ++ (([(Str.ofString "board 0\n0 +1 0 > pit"), (Str.ofString "board 0\n0 1_0 0 > pit"), (Str.ofString "board 0\n0 0 0 > 0_0"), (Str.ofString "board 0\n+0 0 0 > pit")] : List Str).map V.str)))) _
    rw [m8]
    generalize upd (upd H7 l8a (.lst (([(Str.ofString "board 0\n0 +1 0 > pit"), (Str.ofString "board 0\n0 1_0 0 > pit"), (Str.ofString "board 0\n0 0 0 > 0_0"), (Str.ofString "board 0\n+0 0 0 > pit")] : List Str).map V.str))) l8 (.lst ((L7 ++ ([(Str.ofString "board 0\n0 +1 0 > pit"), (Str.ofString "board 0\n0 1_0 0 > pit"), (Str.ofString "board 0\n0 0 0 > 0_0"), (Str.ofString "board 0\n+0 0 0 > pit")] : List Str)).map V.str)) = H8 at e8 s08
    generalize L7 ++ ([(Str.ofString "board 0\n0 +1 0 > pit"), (Str.ofString "board 0\n0 1_0 0 > pit"), (Str.ofString "board 0\n0 0 0 > 0_0"), (Str.ofString "board 0\n+0 0 0 > pit")] : List Str) = L8 at e8 P8 n8
    clear m8 e7 P7 n7
    have d0 := drawn_nn ns 521 (many := 33) (by decide)
    have d1 := drawn_lt ns 521 (many := 33) (by decide)
    refine ⟨_, rfl, _, rfl, _, rfl, _, _, rfl, .inl (SqL.of e8), a, ns, 521, 33, (by rw [List.length_map, n8]; rfl), s08.seq hS, by decide, by decide, by decide, ?_⟩
    obtain ⟨z, hz, hat⟩ := at_strs (L := L8) d0 (by rw [n8]; exact d1)
    exact ⟨_, _, _, _, rfl, rfl, SqL.of e8, hat, q z _ (P8 z hz) s08⟩
theorem sc_changed : FnScope ["script", "shown", "signs", "sign", "at", "way", "lines", "k"] ["script", "shown"] (defScope s_changed) := ⟨rfl, rfl, rfl, by decide +kernel, rfl, by decide +kernel, by decide +kernel⟩
theorem ok_changed (T : Txt K mg A) (G_drawn : FnOk P w K mg base CX0 1 A.f_drawn A.fd_drawn ["script", "k", "many"] (spDrawn K)) : FnOk P w K mg base CX0 2 A.f_changed A.fd_changed ["script", "shown"] (spChg K) := by
  refine T.F_changed.ok sc_changed (fun vs H Q E h => ?_) (fun cdv A' outer s H vs Q E hr h => ?_)
  · obtain ⟨a, ns, b, rfl, _⟩ := h
    rfl
  · obtain ⟨a, ns, b, rfl, hS, N, q⟩ := h
    have At := text_asc N
    have lt := At.l
    have hl12 := N.O.W.2.1
    have ell : (linesS b).length = b.rows.length + 1 := by unfold linesS; simp
    have t1 : 1 ≤ (textS b).length := by
      have j := (join_mem 10 (l := linesS b) (p := headS b.taken) (by unfold linesS; exact List.mem_cons_self)).2
      have e : Str.join ⟨#[10]⟩ (linesS b) = textS b := by unfold textS; rw [nl_is]
      rw [e] at j
      have hh : 1 ≤ (headS b.taken).length := by
        unfold headS
        rw [strLen_append, strLen_append]
        have : (Str.ofString "board").length = 5 := by decide +kernel
        omega
      omega
    refine ⟨_, (pss_cons (ps_set (i := 2) sc_changed.nd rfl (Or.inl rfl) pe_str)
      (pss_cons (ps_set (i := 3) sc_changed.nd rfl (Or.inl rfl) (pe_ix ix_str (pv 2) (pe_call G_drawn (hr.mono (by decide)) (by rfl) T.m__law_drawn T.k__law_drawn T.b__law_drawn .nil pass0 (pa_cons (pv 0) (pa_cons pe_int (pa_cons (pe_callB call_len_str (by rfl) T.n_len PySem.boot_len (pa_cons (pv 2) pa_nil)) pa_nil)))) (fun _ _ => rfl)))
      (pss_cons (ps_if (pt_cmpR op_eq (pe_call G_drawn (hr.mono (by decide)) (by rfl) T.m__law_drawn T.k__law_drawn T.b__law_drawn .nil pass0 (pa_cons (pv 0) (pa_cons pe_int (pa_cons pe_int pa_nil)))) pe_int (nomark _))
        (pss_one (ps_set (i := 3) sc_changed.nd rfl (Or.inl rfl) (pe_ix ix_str pe_str (pe_call G_drawn (hr.mono (by decide)) (by rfl) T.m__law_drawn T.k__law_drawn T.b__law_drawn .nil pass0 (pa_cons (pv 0) (pa_cons pe_int (pa_cons pe_int pa_nil)))) (fun _ _ => rfl))))
        pss_nil)
      (pss_cons (ps_set (i := 4) sc_changed.nd rfl (Or.inl rfl) (pe_call G_drawn (hr.mono (by decide)) (by rfl) T.m__law_drawn T.k__law_drawn T.b__law_drawn .nil pass0 (pa_cons (pv 0) (pa_cons pe_int (pa_cons (pe_callB call_len_str (by rfl) T.n_len PySem.boot_len (pa_cons (pv 1) pa_nil)) pa_nil)))))
      (pss_cons (ps_set (i := 5) sc_changed.nd rfl (Or.inl rfl) (pe_call G_drawn (hr.mono (by decide)) (by rfl) T.m__law_drawn T.k__law_drawn T.b__law_drawn .nil pass0 (pa_cons (pv 0) (pa_cons pe_int (pa_cons pe_int pa_nil)))))
      (pss_cons (ps_if (pt_cmpR op_eq (pv 5) pe_int (nomark _))
        (pss_one (ps_ret (pe_op op_add_str (pe_op op_add_str (pe_slice sl_str (pv 1) po_none (po_some (pv 4))) (pv 3)) (pe_slice sl_str (pv 1) (po_some (pv 4)) po_none))))
        pss_nil)
      (pss_cons (ps_if (pt_cmpR op_eq (pv 5) pe_int (nomark _))
        (pss_one (ps_ret (pe_op op_add_str (pe_slice sl_str (pv 1) po_none (po_some (pv 4))) (pe_slice sl_str (pv 1) (po_some (pe_op op_add (pv 4) pe_int)) po_none))))
        pss_nil)
      (pss_cons (ps_if (pt_cmpR op_eq (pv 5) pe_int (nomark _))
        (pss_one (ps_ret (pe_op op_add_str (pe_op op_add_str (pe_slice sl_str (pv 1) po_none (po_some (pv 4))) (pv 3)) (pe_slice sl_str (pv 1) (po_some (pe_op op_add (pv 4) pe_int)) po_none))))
        pss_nil)
      (pss_cons (ps_set (i := 6) sc_changed.nd rfl (Or.inl rfl) (pe_bm PySem.F.plainAttrs_str PySem.F.slot_str_split PySem.F.type_str_split mt_split (pv 1) (pa_cons pe_str pa_nil)))
      (pss_cons (ps_set (i := 7) sc_changed.nd rfl (Or.inl rfl) (pe_call G_drawn (hr.mono (by decide)) (by rfl) T.m__law_drawn T.k__law_drawn T.b__law_drawn .nil pass0 (pa_cons (pv 0) (pa_cons pe_int (pa_cons (pe_callB (call_lenK (K := K) rfl) (by rfl) T.n_len PySem.boot_len (pa_cons (pv 6) pa_nil)) pa_nil)))))
      (pss_cons (ps_if (pt_cmpR op_eq (pv 5) pe_int (nomark _))
        (pss_one (ps_ret (pe_bm PySem.F.plainAttrs_str PySem.F.slot_str_join PySem.F.type_str_join (mt_joinK (K := K) rfl) pe_str (pa_cons (pe_op op_cat (pe_slice (sl_listK (K := K) rfl) (pv 6) po_none (po_some (pe_op op_add (pv 7) pe_int))) (pe_slice (sl_listK (K := K) rfl) (pv 6) (po_some (pv 7)) po_none)) pa_nil))))
        pss_nil)
      (pss_one (ps_ret (pe_bm PySem.F.plainAttrs_str PySem.F.slot_str_join PySem.F.type_str_join (mt_joinK (K := K) rfl) pe_str (pa_cons (pe_op op_cat (pe_slice (sl_listK (K := K) rfl) (pv 6) po_none (po_some (pv 7))) (pe_slice (sl_listK (K := K) rfl) (pv 6) (po_some (pe_op op_add (pv 7) pe_int)) po_none)) pa_nil))))))))))))))), ?_⟩
    show gName _ (V.str _) _ _ _
    generalize hs0 : Str.ofString _ = sg0
    have A0 : Asc 100 sg0 := by rw [← hs0]; exact asc_k
    have l0 : sg0.length = 95 := by rw [← hs0]; decide +kernel
    clear hs0
    have d0 := drawn_nn ns 522 (many := (sg0.length : Int)) (by omega)
    have d1 := drawn_lt ns 522 (many := (sg0.length : Int)) (by omega)
    obtain ⟨c, hc, hat⟩ := at_signs d0 d1
    refine ⟨_, rfl, _, rfl, _, rfl, _, rfl, size_of (by omega), a, ns, 522, _, rfl, hS, by omega, by decide, by decide, _, _, c, rfl, rfl, size_of (by omega), hat, ?_⟩
    have As := one_asc A0 hc
    show gName _ (V.str ⟨#[c]⟩) _ _ _
    generalize (⟨#[c]⟩ : Str) = sg at As
    clear hat hc d0 d1
    clear c
    dsimp only [gName]
    refine seq_mk' (fun σ' H' => ∃ sg : Str, σ' = [some (.ref a), some (.str (textS b)), some (.str sg0), some (.str sg), none, none, none, none] ∧ Asc 1 sg ∧ H' = H) ?rest1 (fun D1 rest => ?way1)
    case way1 =>
      refine ⟨_, rfl, a, ns, 523, 2, rfl, hS, by decide, by decide, by decide, rfl, _, rfl, ?_⟩
      refine ite2 (fun _ => ?_) (fun _ => rest _ _ ⟨sg, rfl, As, rfl⟩)
      have K2 : Asc 100 (Str.ofString "0123456789 >\npit") := asc_k
      have k16 : (Str.ofString "0123456789 >\npit").length = 16 := by decide +kernel
      have d0 := drawn_nn ns 524 (many := 16) (by decide)
      have d1 := drawn_lt ns 524 (many := 16) (by decide)
      obtain ⟨c, hc, hat⟩ := at_signs (z := Str.ofString "0123456789 >\npit") d0 (by rw [k16]; exact d1)
      exact ⟨_, rfl, a, ns, 524, 16, rfl, hS, by decide, by decide, by decide, _, _, c, rfl, rfl, size_of (by rw [k16]; decide), hat, rest _ _ ⟨_, rfl, one_asc K2 hc, rfl⟩⟩
    clear As
    clear sg
    rintro σ' H' ⟨sg, rfl, As, rfl⟩
    have d0 := drawn_nn ns 525 (many := ((textS b).length : Int)) (by omega)
    have d1 := drawn_lt ns 525 (many := ((textS b).length : Int)) (by omega)
    refine ⟨_, rfl, _, rfl, _, rfl, size_of (by omega), a, ns, 525, _, rfl, hS, by omega, by decide, by decide, ?_⟩
    generalize drawn ns 525 ((textS b).length : Int) = at0 at d0 d1
    refine ⟨_, rfl, a, ns, 526, 5, rfl, hS, by decide, by decide, by decide, ?_⟩
    generalize drawn ns 526 5 = wy
    refine ⟨_, rfl, rfl, _, rfl, ?_⟩
    refine ite2 (fun _ => ?_) (fun _ => ?_)
    · exact ⟨_, rfl, _, rfl, _, rfl, _, rfl, size_of (by omega), _, rfl, _, _, rfl, rfl, sz2 (At.slice _ _) As, _, rfl, _, rfl, _, rfl, _, rfl, size_of (by omega), _, _, rfl, rfl, sz2 ((At.slice _ _).cat As) (At.slice _ _), q _ _ (Asc.le (((At.slice _ _).cat As).cat (At.slice _ _)) (by decide)) (Same.refl _)⟩
    refine ⟨_, rfl, rfl, _, rfl, ?_⟩
    refine ite2 (fun _ => ?_) (fun _ => ?_)
    · exact ⟨_, rfl, _, rfl, _, rfl, _, rfl, size_of (by omega), _, rfl, _, rfl, _, _, rfl, rfl, _, rfl, _, rfl, size_of (by omega), _, _, rfl, rfl, sz2 (At.slice _ _) (At.slice _ _), q _ _ (Asc.le ((At.slice _ _).cat (At.slice _ _)) (by decide)) (Same.refl _)⟩
    refine ⟨_, rfl, rfl, _, rfl, ?_⟩
    refine ite2 (fun _ => ?_) (fun _ => ?_)
    · exact ⟨_, rfl, _, rfl, _, rfl, _, rfl, size_of (by omega), _, rfl, _, _, rfl, rfl, sz2 (At.slice _ _) As, _, rfl, _, rfl, _, _, rfl, rfl, _, rfl, _, rfl, size_of (by omega), _, _, rfl, rfl, sz2 ((At.slice _ _).cat As) (At.slice _ _), q _ _ (Asc.le (((At.slice _ _).cat As).cat (At.slice _ _)) (by decide)) (Same.refl _)⟩
    refine ⟨_, rfl, rfl, textS b, 10, rfl, congrArg (fun x => [V.str x]) nl_is, size_of (by omega), fun l0 hl0 => ?_⟩
    rw [text_split N]
    have s0 : Same H' (upd H' l0 (.lst ((linesS b).map V.str))) := same_new hl0
    have e0 : (upd H' l0 (.lst ((linesS b).map V.str))) l0 = some (.lst ((linesS b).map V.str)) := upd_same
    show gName _ _ _ (upd H' l0 (.lst ((linesS b).map V.str))) _
    generalize upd H' l0 (.lst ((linesS b).map V.str)) = H0 at s0 e0
    have lm : (((linesS b).map V.str).length : Int) = (b.rows.length : Int) + 1 := by rw [List.length_map, ell]; omega
    refine ⟨_, rfl, _, rfl, _, _, rfl, .inl (SqL.of e0), a, ns, 527, _, rfl, s0.seq hS, by rw [lm]; omega, by decide, by decide, ?_⟩
    generalize drawn ns 527 (((linesS b).map V.str).length : Int) = kk
    refine ⟨_, rfl, rfl, _, rfl, ?_⟩
    refine ite2 (fun _ => ?_) (fun _ => ?_)
    · refine ⟨rfl, _, rfl, _, rfl, _, _, rfl, rfl, _, rfl, _, _, rfl, SqL.of e0, fun p1 hp1 => ?_⟩
      rw [cutS]
      generalize hX1 : ((linesS b).drop _).take _ = X1
      have m1 : ∀ p ∈ X1, Asc 252 p := fun p hp => lines_asc N p (List.mem_of_mem_drop (List.mem_of_mem_take (by rw [hX1]; exact hp)))
      have x1 : X1.length ≤ 13 := by rw [← hX1, List.length_take, List.length_drop]; omega
      clear hX1
      have s1 : Same H0 (upd H0 p1 (.lst (X1.map V.str))) := same_new hp1
      have e1 : (upd H0 p1 (.lst (X1.map V.str))) p1 = some (.lst (X1.map V.str)) := upd_same
      show _
      generalize upd H0 p1 (.lst (X1.map V.str)) = H1 at s1 e1
      refine ⟨_, rfl, _, rfl, _, rfl, _, _, rfl, SqL.of (s1 _ _ e0), fun p2 hp2 => ?_⟩
      rw [cutS]
      generalize hX2 : ((linesS b).drop _).take _ = X2
      have m2 : ∀ p ∈ X2, Asc 252 p := fun p hp => lines_asc N p (List.mem_of_mem_drop (List.mem_of_mem_take (by rw [hX2]; exact hp)))
      have x2 : X2.length ≤ 13 := by rw [← hX2, List.length_take, List.length_drop]; omega
      clear hX2
      have s2 : Same H1 (upd H1 p2 (.lst (X2.map V.str))) := same_new hp2
      have e2 : (upd H1 p2 (.lst (X2.map V.str))) p2 = some (.lst (X2.map V.str)) := upd_same
      show _
      generalize upd H1 p2 (.lst (X2.map V.str)) = H2 at s2 e2
      refine ⟨p1, p2, _, _, rfl, rfl, s2 _ _ e1, e2, size_of (by rw [List.length_map, List.length_map]; omega), fun p3 hp3 => ?_⟩
      rw [← List.map_append]
      have m3 : ∀ p ∈ X1 ++ X2, Asc 252 p := fun p hp => (List.mem_append.mp hp).elim (m1 p) (m2 p)
      have x3 : (X1 ++ X2).length ≤ 26 := by rw [List.length_append]; omega
      have s3 : Same H2 (upd H2 p3 (.lst ((X1 ++ X2).map V.str))) := same_new hp3
      refine ⟨_, p3, X1 ++ X2, rfl, rfl, SqL.of upd_same, joinOk_of (B := 252) (fun y hy => (m3 y hy).l) ?_, q _ _ ?_ (((s0.trans s1).trans s2).trans s3)⟩
      · rw [nl_len]
        have : (X1 ++ X2).length * 252 ≤ 26 * 252 := Nat.mul_le_mul_right _ x3
        omega
      · rw [nl_is]
        exact (Asc.join (c := 10) (by decide) (n := 26) (B := 252) m3 x3).le (by decide)
    · refine ⟨rfl, _, rfl, _, rfl, _, rfl, _, _, rfl, SqL.of e0, fun p1 hp1 => ?_⟩
      rw [cutS]
      generalize hX1 : ((linesS b).drop _).take _ = X1
      have m1 : ∀ p ∈ X1, Asc 252 p := fun p hp => lines_asc N p (List.mem_of_mem_drop (List.mem_of_mem_take (by rw [hX1]; exact hp)))
      have x1 : X1.length ≤ 13 := by rw [← hX1, List.length_take, List.length_drop]; omega
      clear hX1
      have s1 : Same H0 (upd H0 p1 (.lst (X1.map V.str))) := same_new hp1
      have e1 : (upd H0 p1 (.lst (X1.map V.str))) p1 = some (.lst (X1.map V.str)) := upd_same
      show _
      generalize upd H0 p1 (.lst (X1.map V.str)) = H1 at s1 e1
      refine ⟨_, rfl, _, rfl, _, _, rfl, rfl, _, rfl, _, _, rfl, SqL.of (s1 _ _ e0), fun p2 hp2 => ?_⟩
      rw [cutS]
      generalize hX2 : ((linesS b).drop _).take _ = X2
      have m2 : ∀ p ∈ X2, Asc 252 p := fun p hp => lines_asc N p (List.mem_of_mem_drop (List.mem_of_mem_take (by rw [hX2]; exact hp)))
      have x2 : X2.length ≤ 13 := by rw [← hX2, List.length_take, List.length_drop]; omega
      clear hX2
      have s2 : Same H1 (upd H1 p2 (.lst (X2.map V.str))) := same_new hp2
      have e2 : (upd H1 p2 (.lst (X2.map V.str))) p2 = some (.lst (X2.map V.str)) := upd_same
      show _
      generalize upd H1 p2 (.lst (X2.map V.str)) = H2 at s2 e2
      refine ⟨p1, p2, _, _, rfl, rfl, s2 _ _ e1, e2, size_of (by rw [List.length_map, List.length_map]; omega), fun p3 hp3 => ?_⟩
      rw [← List.map_append]
      have m3 : ∀ p ∈ X1 ++ X2, Asc 252 p := fun p hp => (List.mem_append.mp hp).elim (m1 p) (m2 p)
      have x3 : (X1 ++ X2).length ≤ 26 := by rw [List.length_append]; omega
      have s3 : Same H2 (upd H2 p3 (.lst ((X1 ++ X2).map V.str))) := same_new hp3
      refine ⟨_, p3, X1 ++ X2, rfl, rfl, SqL.of upd_same, joinOk_of (B := 252) (fun y hy => (m3 y hy).l) ?_, q _ _ ?_ (((s0.trans s1).trans s2).trans s3)⟩
      · rw [nl_len]
        have : (X1 ++ X2).length * 252 ≤ 26 * 252 := Nat.mul_le_mul_right _ x3
        omega
      · rw [nl_is]
        exact (Asc.join (c := 10) (by decide) (n := 26) (B := 252) m3 x3).le (by decide)
theorem sc_drawn : FnScope ["script", "k", "many", "cell", "mixed"] ["script", "k", "many"] (defScope s_drawn) := ⟨rfl, rfl, rfl, by decide +kernel, rfl, by decide +kernel, by decide +kernel⟩
theorem ok_drawn (T : Txt K mg A) : FnOk P w K mg base CX0 1 A.f_drawn A.fd_drawn ["script", "k", "many"] (spDrawn K) := by
  refine T.F_drawn.ok sc_drawn (fun vs H Q E h => ?_) (fun cdv A' outer s H vs Q E hr h => ?_)
  · obtain ⟨a, ns, k, many, rfl, _⟩ := h
    rfl
  · obtain ⟨a, ns, k, many, rfl, hS, hm, k1, k2, q⟩ := h
    refine ⟨_, (pss_cons (ps_set (i := 3) sc_drawn.nd rfl (Or.inl rfl) pe_int)
      (pss_cons (ps_if (pt_cmpR op_gt (pe_callB (call_lenK (K := K) rfl) (by rfl) T.n_len PySem.boot_len (pa_cons (pv 0) pa_nil)) pe_int (nomark _))
        (pss_one (ps_set (i := 3) sc_drawn.nd rfl (Or.inl rfl) (pe_ix (ix_listK (K := K) rfl) (pv 0) (pe_op op_mod (pv 1) (pe_callB (call_lenK (K := K) rfl) (by rfl) T.n_len PySem.boot_len (pa_cons (pv 0) pa_nil))) (fun _ _ => rfl))))
        pss_nil)
      (pss_cons (ps_set (i := 4) sc_drawn.nd rfl (Or.inl rfl) (pe_op op_add (pe_op op_add (pe_op op_mul (pv 3) (pe_op op_add pe_int (pe_op op_mul pe_int (pe_op op_mod (pv 1) pe_int)))) (pe_op op_mul (pe_op op_mul (pe_op op_add (pv 1) pe_int) (pe_op op_add (pv 1) pe_int)) pe_int)) (pe_callB (call_lenK (K := K) rfl) (by rfl) T.n_len PySem.boot_len (pa_cons (pv 0) pa_nil))))
      (pss_one (ps_ret (pe_op op_mod (pe_op op_fdiv (pe_op op_mod (pv 4) pe_int) pe_int) (pv 2))))))), ?_⟩
    have hl : (ns.map V.int).length = ns.length := by simp
    refine ⟨_, rfl, _, _, rfl, .inl hS, _, _, rfl, rfl, _, rfl, ?_⟩
    rw [hl]
    refine ite2 (fun hc => ?_) (fun hc => ?_)
    · have hc' : 0 < (ns.length : Int) := by simpa using hc
      refine ⟨_, rfl, _, rfl, _, rfl, _, _, rfl, .inl hS, _, _, rfl, rfl, (by rw [hl]; exact hc'), _, _, _, _, rfl, rfl, hS, at_ints (Int.emod_nonneg _ (by rw [hl]; omega)) (by rw [hl]; exact Int.emod_lt_of_pos _ hc'), ?_⟩
      refine ⟨_, rfl, _, rfl, _, _, rfl, rfl, (by show (0 : Int) < 97; decide), _, _, rfl, rfl, .inl ⟨by decide, by decide⟩, _, _, rfl, rfl, _, _, rfl, rfl, .inr ⟨by omega, by omega⟩,
        _, rfl, _, _, rfl, rfl, _, rfl, _, _, rfl, rfl, _, _, rfl, rfl, .inl ⟨by omega, by omega⟩, _, _, rfl, rfl, .inr ⟨by decide, by decide⟩, _, _, rfl, rfl, _, rfl, _, _, rfl, .inl hS, _, _, rfl, rfl, ?_⟩
      refine ⟨_, rfl, _, _, rfl, rfl, (by show (0 : Int) < 2147483647; decide), _, _, rfl, rfl, ⟨by decide, by decide⟩, _, rfl, _, _, rfl, rfl, hm, ?_⟩
      have e : drawn ns k many = (ns.getD (k % (ns.length : Int)).toNat 0 * (48271 + 9973 * (k % 97)) + (k + 1) * (k + 3) * 16807 + (ns.length : Int)) % 2147483647 / 16 % many := by
        unfold drawn
        rw [if_pos hc']
      rw [e] at q
      rw [hl]
      exact q
    · have hc' : ¬ 0 < (ns.length : Int) := by simpa using hc
      refine ⟨_, rfl, _, rfl, _, _, rfl, rfl, (by show (0 : Int) < 97; decide), _, _, rfl, rfl, .inl ⟨by decide, by decide⟩, _, _, rfl, rfl, _, _, rfl, rfl, .inr ⟨by omega, by omega⟩,
        _, rfl, _, _, rfl, rfl, _, rfl, _, _, rfl, rfl, _, _, rfl, rfl, .inl ⟨by omega, by omega⟩, _, _, rfl, rfl, .inr ⟨by decide, by decide⟩, _, _, rfl, rfl, _, rfl, _, _, rfl, .inl hS, _, _, rfl, rfl, ?_⟩
      refine ⟨_, rfl, _, _, rfl, rfl, (by show (0 : Int) < 2147483647; decide), _, _, rfl, rfl, ⟨by decide, by decide⟩, _, rfl, _, _, rfl, rfl, hm, ?_⟩
      have e : drawn ns k many = (7 * (48271 + 9973 * (k % 97)) + (k + 1) * (k + 3) * 16807 + (ns.length : Int)) % 2147483647 / 16 % many := by
        unfold drawn
        rw [if_neg hc']
      rw [e] at q
      rw [hl]
      exact q
theorem sc_other : FnScope ["gone", "many"] ["gone", "many"] (defScope s_other) := ⟨rfl, rfl, rfl, by decide +kernel, rfl, by decide +kernel, by decide +kernel⟩
theorem ok_other (T : Txt K mg A) : FnOk P w K mg base CX0 1 A.f_other A.fd_other ["gone", "many"] spOther := by
  refine T.F_other.ok sc_other (fun vs H Q E h => ?_) (fun cdv A' outer s H vs Q E hr h => ?_)
  · obtain ⟨g, many, rfl, _⟩ := h
    rfl
  · obtain ⟨g, many, rfl, q⟩ := h
    refine ⟨_, (pss_cons (ps_if (pt_cmpR op_lt (pv 0) pe_int (nomark _))
        (pss_one (ps_ret (pv 0)))
        pss_nil)
      (pss_one (ps_ret (pe_op op_sub (pe_op op_sub (pv 1) pe_int) (pv 0))))), ?_⟩
    refine ⟨_, rfl, _, _, rfl, rfl, _, rfl, ?_⟩
    unfold oth at q
    refine ite2 (fun hc => ?_) (fun hc => ?_)
    · have hc' : g < 0 := by simpa using hc
      rw [if_pos hc'] at q
      exact ⟨_, rfl, q⟩
    · have hc' : ¬ g < 0 := by simpa using hc
      rw [if_neg hc'] at q
      exact ⟨_, rfl, _, _, rfl, rfl, _, rfl, _, _, rfl, rfl, q⟩
theorem sc_rows_by : FnScope ["script", "big", "many", "rows", "k", "at", "size", "top", "row", "j"] ["script"] (defScope s_rows_by) := ⟨rfl, rfl, rfl, by decide +kernel, rfl, by decide +kernel, by decide +kernel⟩
theorem ok_rows_by (T : Txt K mg A) (G_drawn : FnOk P w K mg base CX0 1 A.f_drawn A.fd_drawn ["script", "k", "many"] (spDrawn K)) (G_other : FnOk P w K mg base CX0 1 A.f_other A.fd_other ["gone", "many"] spOther) : FnOk P w K mg base CX0 3 A.f_rows_by A.fd_rows_by ["script"] (spRowsT K) := by
  refine T.F_rows_by.ok sc_rows_by (fun vs H Q E h => ?_) (fun cdv A' outer s H vs Q E hr h => ?_)
  · obtain ⟨a, ns, rfl, _⟩ := h
    rfl
  · obtain ⟨a, ns, rfl, hS, q⟩ := h
    refine ⟨_, (pss_cons (ps_set (i := 1) sc_rows_by.nd rfl (Or.inl rfl) (pe_cmpR op_eq (pe_call G_drawn (hr.mono (by decide)) (by rfl) T.m__law_drawn T.k__law_drawn T.b__law_drawn .nil pass0 (pa_cons (pv 0) (pa_cons pe_int (pa_cons pe_int pa_nil)))) pe_int (nomark _)))
      (pss_cons (ps_set (i := 2) sc_rows_by.nd rfl (Or.inr rfl) (pe_op op_add pe_int (pe_call G_drawn (hr.mono (by decide)) (by rfl) T.m__law_drawn T.k__law_drawn T.b__law_drawn .nil pass0 (pa_cons (pv 0) (pa_cons pe_int (pa_cons pe_int pa_nil))))))
      (pss_cons (ps_if (pt_val (pv 1))
        (pss_one (ps_set (i := 2) sc_rows_by.nd rfl (Or.inr rfl) (pe_op op_add pe_int (pe_call G_drawn (hr.mono (by decide)) (by rfl) T.m__law_drawn T.k__law_drawn T.b__law_drawn .nil pass0 (pa_cons (pv 0) (pa_cons pe_int (pa_cons pe_int pa_nil)))))))
        pss_nil)
      (pss_cons (ps_set (i := 3) sc_rows_by.nd rfl (Or.inl rfl) (pe_lst pa_nil))
      (pss_cons (ps_for PassesOwn.never rfl (pi_range1 (by rfl) T.n_range (pa_cons (pv 2) pa_nil)) (pg_name (i := 4) sc_rows_by.nd rfl (Or.inl rfl))
        (pss_cons (ps_set (i := 5) sc_rows_by.nd rfl (Or.inr rfl) (pe_op op_add pe_int (pe_op op_mul pe_int (pv 4))))
        (pss_cons (ps_set (i := 6) sc_rows_by.nd rfl (Or.inl rfl) (pe_op op_add pe_int (pe_call G_drawn (hr.mono (by decide)) (by rfl) T.m__law_drawn T.k__law_drawn T.b__law_drawn .nil pass0 (pa_cons (pv 0) (pa_cons (pv 5) (pa_cons pe_int pa_nil))))))
        (pss_cons (ps_set (i := 7) sc_rows_by.nd rfl (Or.inr rfl) (pe_op op_add (pv 2) pe_int))
        (pss_cons (ps_if (pt_val (pv 1))
          (pss_cons (ps_set (i := 6) sc_rows_by.nd rfl (Or.inl rfl) (pe_op op_add pe_int (pe_call G_drawn (hr.mono (by decide)) (by rfl) T.m__law_drawn T.k__law_drawn T.b__law_drawn .nil pass0 (pa_cons (pv 0) (pa_cons (pv 5) (pa_cons pe_int pa_nil))))))
          (pss_one (ps_set (i := 7) sc_rows_by.nd rfl (Or.inr rfl) (pe_op op_add (pv 4) pe_int))))
          pss_nil)
        (pss_cons (ps_setComp (i := 8) sc_rows_by.nd rfl rfl (CompSc.of (N' := ["j", "script", "at", "top"]) (ix := [none, some 0, some 5, some 7]) rfl (by kernel_rfl)) rfl rfl rfl rfl (pi_range1 (by rfl) T.n_range (pa_cons (pv 6) pa_nil)) (by exact fun _ _ _ _ _ => pf_nil) (by exact fun _ _ _ _ _ hI => (pe_op op_sub (pe_call G_drawn (hr.mono (by decide)) (by rfl) T.m__law_drawn T.k__law_drawn T.b__law_drawn .nil pass0 (pa_cons (pv 1) (pa_cons (pe_op op_add (pe_op op_add (pv 2) pe_int) (pv 0)) (pa_cons (pv 3) pa_nil)))) pe_int)))
        (pss_cons (ps_asg (pe_op op_sub (pe_call G_drawn (hr.mono (by decide)) (by rfl) T.m__law_drawn T.k__law_drawn T.b__law_drawn .nil pass0 (pa_cons (pv 0) (pa_cons (pe_op op_add (pv 5) pe_int) (pa_cons (pe_op op_add (pv 4) pe_int) pa_nil)))) pe_int) (pg_sub (pv 8) (pe_call G_drawn (hr.mono (by decide)) (by rfl) T.m__law_drawn T.k__law_drawn T.b__law_drawn .nil pass0 (pa_cons (pv 0) (pa_cons (pe_op op_add (pv 5) pe_int) (pa_cons (pv 6) pa_nil)))) set_list))
        (pss_one (ps_expr (pe_bm PySem.F.plainAttrs_list PySem.F.slot_list_append PySem.F.type_list_append mt_append (pv 3) (pa_cons (pv 8) pa_nil)))))))))))
      (pss_cons (ps_if (PW.pt (pw_and (pt_val (pv 1)) (pw_and1 (pt_cmpR op_gt (pe_call G_drawn (hr.mono (by decide)) (by rfl) T.m__law_drawn T.k__law_drawn T.b__law_drawn .nil pass0 (pa_cons (pv 0) (pa_cons pe_int (pa_cons pe_int pa_nil)))) pe_int (nomark _)))))
        (pss_one (ps_for PassesOwn.never rfl (pi_range1 (by rfl) T.n_range (pa_cons pe_int pa_nil)) (pg_name (i := 9) sc_rows_by.nd rfl (Or.inl rfl))
          (pss_cons (ps_set (i := 8) sc_rows_by.nd rfl (Or.inl rfl) (pe_ix (ix_listK (K := K) rfl) (pv 3) (pe_call G_drawn (hr.mono (by decide)) (by rfl) T.m__law_drawn T.k__law_drawn T.b__law_drawn .nil pass0 (pa_cons (pv 0) (pa_cons (pe_op op_add pe_int (pv 9)) (pa_cons (pv 2) pa_nil)))) (fun _ _ => rfl)))
          (pss_one (ps_if (pt_cmpR op_lt (pe_callB (call_lenK (K := K) rfl) (by rfl) T.n_len PySem.boot_len (pa_cons (pv 8) pa_nil)) pe_int (nomark _))
            (pss_one (ps_expr (pe_bm PySem.F.plainAttrs_list PySem.F.slot_list_insert PySem.F.type_list_insert mt_insert (pv 8) (pa_cons (pe_call G_drawn (hr.mono (by decide)) (by rfl) T.m__law_drawn T.k__law_drawn T.b__law_drawn .nil pass0 (pa_cons (pv 0) (pa_cons (pe_op op_add pe_int (pv 9)) (pa_cons (pe_op op_add (pe_callB (call_lenK (K := K) rfl) (by rfl) T.n_len PySem.boot_len (pa_cons (pv 8) pa_nil)) pe_int) pa_nil)))) (pa_cons (pe_call G_drawn (hr.mono (by decide)) (by rfl) T.m__law_drawn T.k__law_drawn T.b__law_drawn .nil pass0 (pa_cons (pv 0) (pa_cons (pe_op op_add pe_int (pv 9)) (pa_cons (pv 2) pa_nil)))) pa_nil)))))
            pss_nil)))))
        pss_nil)
      (pss_cons (ps_if (pt_cmpR op_eq (pe_call G_drawn (hr.mono (by decide)) (by rfl) T.m__law_drawn T.k__law_drawn T.b__law_drawn .nil pass0 (pa_cons (pv 0) (pa_cons pe_int (pa_cons pe_int pa_nil)))) pe_int (nomark _))
        (pss_one (ps_setComp (i := 3) sc_rows_by.nd rfl rfl (CompSc.of (N' := ["row", "many"]) (ix := [none, some 2]) rfl (by kernel_rfl)) rfl rfl rfl rfl (pi_revK (K := K) rfl (by rfl) T.n_reversed (pa_cons (pv 3) pa_nil)) (by exact fun _ _ _ _ _ => pf_nil) (by exact fun _ _ _ _ _ hI => (pe_comp (CompSc.of (N' := ["gone", "many"]) (ix := [none, some 1]) rfl (by kernel_rfl)) rfl rfl rfl rfl (pi_listK (K := K) rfl (pv 0)) (by exact fun _ _ _ _ _ => pf_nil) (by exact fun _ _ _ _ _ hI => (pe_call G_other (hr.mono (by decide)) (by rfl) T.m__law_other T.k__law_other T.b__law_other .nil pass0 (pa_cons (pv 0) (pa_cons (pv 1) pa_nil)))) (fun _ => rfl)))))
        pss_nil)
      (pss_one (ps_ret (pv 3)))))))))), ?_⟩
    have d12 := drawn_nn ns 1 (many := 4) (by decide)
    have d12' := drawn_lt ns 1 (many := 4) (by decide)
    have d28 := drawn_nn ns 2 (many := 8) (by decide)
    have d28' := drawn_lt ns 2 (many := 8) (by decide)
    refine ⟨_, rfl, a, ns, 0, 4, rfl, hS, by decide, by decide, by decide, rfl, ?_⟩
    generalize decide (V.int (drawn ns 0 4) = V.int 1) = big
    refine ⟨_, rfl, a, ns, 1, 4, rfl, hS, by decide, by decide, by decide, _, _, rfl, rfl, ?_⟩
    dsimp only [gName]
    refine seq_mk (fun σ' H' => ∃ many : Int, 1 ≤ many ∧ many ≤ 12 ∧ (big = false → many ≤ 4) ∧ σ' = [some (.ref a), some (.bl big), some (.int many), none, none, none, none, none, none, none] ∧ H = H') ?rest (fun rest => ?way)
    case way =>
      refine ⟨_, rfl, _, rfl, ?_⟩
      refine ite2 (fun hb => ?_) (fun _ => rest _ _ ⟨_, by omega, by omega, fun _ => by omega, rfl, rfl⟩)
      refine ⟨_, rfl, a, ns, 2, 8, rfl, hS, by decide, by decide, by decide, _, _, rfl, rfl, ?_⟩
      exact rest _ _ ⟨_, by omega, by omega, fun z => by subst z; exact absurd hb (by decide), rfl, rfl⟩
    rintro σ' H' ⟨many, hm1, hm12, hm4, rfl, rfl⟩
    refine ⟨small12 (by simp), fun R hR => ?_⟩
    have M0 := Mat.new (H := upd H R (.lst [])) (R := R) upd_same
    refine ⟨_, rfl, _, rfl, by omega, by omega, ?_⟩
    refine for_range (fun i σ H2 => ∃ (as : List Addr) (rows : List (List Int)) (x4 x5 x6 x7 x8 x9 : Option V), σ = [some (.ref a), some (.bl big), some (.int many), some (.ref R), x4, x5, x6, x7, x8, x9] ∧ Mat H2 R as rows ∧ rows.length = i ∧ (∀ r ∈ rows, RowOk many.toNat r) ∧ Shape rows (fun _ => if big = true then 0 else 2) ∧ Same H H2 ∧ ∀ c ∈ R :: as, H c = none)
      ⟨[], [], none, none, none, none, none, none, rfl, M0, rfl, (fun _ z => by cases z), shape_nil _, same_new hR, fun c hc => by rw [List.mem_singleton.mp hc]; exact hR⟩ ?_ ?_
    · rintro i σ H2 hi ⟨as, rows, x4, x5, x6, x7, x8, x9, rfl, M, hlen, hrow, dn, s2, fr⟩
      have hS2 : SqL K H2 a (ns.map V.int) := s2.seq hS
      have hI : i < 100 := by omega
      have b3 := drawn_nn ns (10 + 20 * (0 + (i : Int))) (many := 3) (by decide)
      have b3' := drawn_lt ns (10 + 20 * (0 + (i : Int))) (many := 3) (by decide)
      have b8 := drawn_nn ns (10 + 20 * (0 + (i : Int))) (many := 8) (by decide)
      have b8' := drawn_lt ns (10 + 20 * (0 + (i : Int))) (many := 8) (by decide)
      refine ⟨_, rfl, _, _, rfl, rfl, .inl ⟨by decide, by decide⟩, _, _, rfl, rfl, ?_⟩
      refine ⟨_, rfl, _, rfl, a, ns, _, 3, rfl, hS2, by decide, (kb10 hI).1, (kb10 hI).2, _, _, rfl, rfl, ?_⟩
      refine ⟨_, rfl, _, _, rfl, rfl, ?_⟩
      dsimp only [gName]
      refine seq_mk (fun σ' H' => ∃ sz tp : Int, 1 ≤ sz ∧ sz ≤ 8 ∧ 1 ≤ tp ∧ tp ≤ many + 1 ∧ (big = true → tp = (i : Int) + 1) ∧ (big = false → sz ≤ 3) ∧ σ' = [some (.ref a), some (.bl big), some (.int many), some (.ref R), some (.int (0 + (i : Int))), some (.int (10 + 20 * (0 + (i : Int)))), some (.int sz), some (.int tp), x8, x9] ∧ H2 = H') ?rest2 (fun rest => ?way2)
      case way2 =>
        refine ⟨_, rfl, _, rfl, ?_⟩
        refine ite2 (fun hb => ?_) (fun hb => rest _ _ ⟨_, _, by omega, by omega, by omega, by omega, fun z => by subst z; exact absurd rfl hb, fun _ => by omega, rfl, rfl⟩)
        refine ⟨_, rfl, _, rfl, a, ns, _, 8, rfl, hS2, by decide, (kb10 hI).1, (kb10 hI).2, _, _, rfl, rfl, ?_⟩
        refine ⟨_, rfl, _, _, rfl, rfl, ?_⟩
        exact rest _ _ ⟨_, _, by omega, by omega, by omega, by omega, fun _ => by omega, fun z => by subst z; exact absurd hb (by decide), rfl, rfl⟩
      · rintro σ' H' ⟨sz, tp, hz1, hz8, ht1, htm, htb, hzb, rfl, rfl⟩
        refine ⟨_, rfl, _, rfl, by omega, by omega, ?_⟩
        refine comp_pure (ys := ((List.range sz.toNat).map fun (j : Nat) => drawn ns (10 + 20 * (0 + (i : Int)) + 3 + (0 + (j : Int))) tp - 1).map V.int) wk_range (by rw [List.length_map, List.length_range]; exact small12 (by omega)) (by simp) (fun j x y ex ey Q' q' => ?_) (fun D hD => ?_)
        · rw [List.getElem?_map] at ex ey
          rw [List.getElem?_map] at ey
          cases er : (List.range sz.toNat)[j]? with
          | none => rw [er] at ex; cases ex
          | some j' =>
            rw [er] at ex ey
            cases ex
            cases ey
            obtain ⟨hj1, hj2⟩ := List.getElem?_eq_some_iff.mp er
            rw [List.getElem_range] at hj2
            rw [List.length_range] at hj1
            have hJ : j < 100 := by omega
            subst hj2
            exact ⟨_, rfl, _, rfl, _, _, rfl, rfl, _, rfl, _, _, rfl, rfl, _, rfl, a, ns, _, _, rfl, hS2, ps1 ht1, (kb13 hI hJ).1, (kb13 hI hJ).2, _, _, rfl, rfl, q'⟩
        · have hS3 : ∀ o, SqL K (upd H2 D o) a (ns.map V.int) := fun o => (same_new hD).seq hS2
          have hDn : D ∉ R :: as := fun z => by
            rcases List.mem_cons.mp z with z | z
            · rw [z, M.hd] at hD; cases hD
            · obtain ⟨n, hn, e⟩ := List.getElem_of_mem z
              obtain ⟨a', e1, e2, _⟩ := M.get (i := n) (by rw [← M.len]; exact hn)
              rw [List.getElem?_eq_getElem hn, e] at e1
              cases e1
              rw [hD] at e2; cases e2
          have hRD : R ≠ D := fun z => hDn (by rw [← z]; exact List.mem_cons_self)
          have l1 := drawn_lt ns (10 + 20 * (0 + (i : Int)) + 1) (many := sz) (ps1 hz1)
          refine ⟨_, rfl, _, rfl, _, _, rfl, rfl, _, rfl, _, _, rfl, rfl, a, ns, _, _, rfl, hS3 _, psi, (kb12 hI).1, (kb12 hI).2, _, _, rfl, rfl, _, rfl,
            _, rfl, _, rfl, _, _, rfl, rfl, _, rfl, a, ns, _, _, rfl, hS3 _, ps1 hz1, (kb11 hI).1, (kb11 hI).2, _, _, _, _, rfl, rfl, upd_same, ixN_in (drawn_nn _ _ (ps1 hz1)) (by simp only [List.length_map, List.length_range]; omega), ?_⟩
          rw [map_set_int, upd_upd]
          have hR3 : ∀ o, (upd H2 D o) R = some (.lst (as.map V.ref)) := fun o => by rw [upd_ne hRD]; exact M.hd
          refine ⟨_, rfl, .inl ⟨rfl, _, SqL.of (hR3 _)⟩, _, rfl, R, _, _, rfl, rfl, hR3 _, (by rw [M.reflen]; exact small1000 (by omega)), ?_⟩
          refine ⟨as ++ [D], _, _, _, _, _, _, _, rfl, (M.upd (b := D) hDn).snoc (D := D) upd_same hDn, by rw [List.length_append, List.length_singleton, hlen], fun r hr => ?_, ?dnn, ?_, fun c hc => ?_⟩
          case dnn =>
            have a1 := drawn_nn ns (10 + 20 * (0 + (i : Int)) + 2) (many := 0 + (i : Int) + 1) psi
            have a2 := drawn_lt ns (10 + 20 * (0 + (i : Int)) + 2) (many := 0 + (i : Int) + 1) psi
            have hmm : (drawn ns (10 + 20 * (0 + (i : Int)) + 2) (0 + (i : Int) + 1) - 1) ∈ ((List.range sz.toNat).map fun (j : Nat) => drawn ns (10 + 20 * (0 + (i : Int)) + 3 + (0 + (j : Int))) tp - 1).set (drawn ns (10 + 20 * (0 + (i : Int)) + 1) sz).toNat (drawn ns (10 + 20 * (0 + (i : Int)) + 2) (0 + (i : Int) + 1) - 1) := by
              rw [List.mem_iff_getElem?]
              exact ⟨(drawn ns (10 + 20 * (0 + (i : Int)) + 1) sz).toNat, List.getElem?_set_self (by rw [List.length_map, List.length_range]; have := drawn_nn ns (10 + 20 * (0 + (i : Int)) + 1) (many := sz) (by omega); omega)⟩
            refine shape_snoc dn ?_ (by split <;> decide) ⟨_, hmm, by omega⟩
            rw [hlen]
            by_cases hb : big = true
            · rw [if_pos hb, ups_zero fun e he => ?_]
              · exact Nat.le_refl _
              · have htp := htb hb
                rcases List.mem_or_eq_of_mem_set he with z | z
                · obtain ⟨j, _, rfl⟩ := List.mem_map.mp z
                  have := drawn_lt ns (10 + 20 * (0 + (i : Int)) + 3 + (0 + (j : Int))) (many := tp) (by omega)
                  omega
                · omega
            · rw [if_neg hb]
              have hz3 := hzb (by simpa using hb)
              exact ups_small (by rw [List.length_set, List.length_map, List.length_range]; omega) ⟨_, hmm, by omega⟩
          · rcases List.mem_append.mp hr with z | z
            · exact hrow r z
            · rw [List.mem_singleton.mp z]
              have a1 := drawn_nn ns (10 + 20 * (0 + (i : Int)) + 2) (many := 0 + (i : Int) + 1) psi
              have a2 := drawn_lt ns (10 + 20 * (0 + (i : Int)) + 2) (many := 0 + (i : Int) + 1) psi
              exact rowok_new (many := many) (by omega) (by omega) (by omega) (by omega) (by omega) (fun j => 10 + 20 * (0 + (i : Int)) + 3 + (0 + j)) (by omega)
          · exact same_upd (same_upd s2 (s2.free hD)) (fr R List.mem_cons_self)
          · rcases List.mem_cons.mp hc with z | z
            · rw [z]; exact fr R List.mem_cons_self
            · rcases List.mem_append.mp z with z | z
              · exact fr c (List.mem_cons_of_mem _ z)
              · rw [List.mem_singleton.mp z]; exact s2.free hD
    · rintro σ H2 ⟨as, rows, x4, x5, x6, x7, x8, x9, rfl, M, hlen, hrow, dn, s2, fr⟩
      have hS2 : SqL K H2 a (ns.map V.int) := s2.seq hS
      dsimp only
      refine seq_mk (fun σ' H' => ∃ (as : List Addr) (rows : List (List Int)) (x4 x5 x6 x7 x8 x9 : Option V), σ' = [some (.ref a), some (.bl big), some (.int many), some (.ref R), x4, x5, x6, x7, x8, x9] ∧ Mat H' R as rows ∧ rows.length = many.toNat ∧ (∀ r ∈ rows, RowOk many.toNat r) ∧ Shp many rows ∧ Same H H' ∧ ∀ c ∈ R :: as, H c = none) ?rest3 (fun rest => ?way3)
      case way3 =>
        refine ⟨_, rfl, _, rfl, ?_⟩
        refine ite2 (fun hb => ?_) (fun _ => iteF (rest _ _ ⟨as, rows, x4, x5, x6, x7, x8, x9, rfl, M, hlen, hrow, shp_of dn hm4, s2, fr⟩))
        refine ⟨_, rfl, a, ns, 4, 3, rfl, hS2, by decide, by decide, by decide, _, _, rfl, rfl, _, rfl, ?_⟩
        refine ite2 (fun _ => ?_) (fun _ => rest _ _ ⟨as, rows, x4, x5, x6, x7, x8, x9, rfl, M, hlen, hrow, shp_of dn hm4, s2, fr⟩)
        refine ⟨_, rfl, by decide, by decide, ?_⟩
        refine for_range (fun i σ' H' => ∃ (as : List Addr) (rows : List (List Int)) (x4 x5 x6 x7 x8 x9 : Option V), σ' = [some (.ref a), some (.bl big), some (.int many), some (.ref R), x4, x5, x6, x7, x8, x9] ∧ Mat H' R as rows ∧ rows.length = many.toNat ∧ (∀ r ∈ rows, RowOk many.toNat r) ∧ (∃ u, Shape rows u ∧ sumU u rows.length ≤ i) ∧ Same H H' ∧ ∀ c ∈ R :: as, H c = none) ⟨as, rows, x4, x5, x6, x7, x8, x9, rfl, M, hlen, hrow, ⟨_, dn, by
            have hb' : big = true := hb
            subst hb'
            show sumU (fun _ => 0) _ ≤ 0
            rw [sumU_zero]
            exact Nat.le_refl _⟩, s2, fr⟩ ?_ (fun σ' H' h => by
          obtain ⟨as, rows, x4, x5, x6, x7, x8, x9, h1, M, hlen, hrow, ⟨u, u1, u2⟩, s2, fr⟩ := h
          exact rest σ' H' ⟨as, rows, x4, x5, x6, x7, x8, x9, h1, M, hlen, hrow, ⟨u, u1, .inl u2⟩, s2, fr⟩)
        rintro i σ' H' hi ⟨as, rows, x4, x5, x6, x7, x8, x9, rfl, M, hlen, hrow, ⟨u, dn, du⟩, s2, fr⟩
        have hi3 : i < 3 := hi
        have hI : i < 100 := Nat.lt_trans hi3 (by decide)
        have hS3 : SqL K H' a (ns.map V.int) := s2.seq hS
        have e1 := drawn_nn ns (5 + (0 + (i : Int))) (many := many) (ps1 hm1)
        have e2 := drawn_lt ns (5 + (0 + (i : Int))) (many := many) (ps1 hm1)
        have hn : (drawn ns (5 + (0 + (i : Int))) many).toNat < rows.length := by omega
        obtain ⟨c, ec, hc, hca⟩ := M.get hn
        have hrn := hrow _ (List.getElem_mem hn)
        have hcl : ((rows[(drawn ns (5 + (0 + (i : Int))) many).toNat]).map V.int).length = (rows[(drawn ns (5 + (0 + (i : Int))) many).toNat]).length := by simp
        refine ⟨_, rfl, _, rfl, _, rfl, _, _, rfl, rfl, _, rfl, a, ns, _, _, rfl, hS3, ps1 hm1, (kbc hI (by decide)).1, (kbc hI (by decide)).2, _, _, _, _, rfl, rfl, M.sq, at_list (n := (drawn ns (5 + (0 + (i : Int))) many).toNat) (by omega) (by rw [List.getElem?_map, ec]; rfl), ?_⟩
        refine ⟨_, rfl, _, _, rfl, .inl (SqL.of hc), _, _, rfl, rfl, _, rfl, ?_⟩
        refine ite2 (fun h8 => ?_) (fun _ => ⟨as, rows, _, _, _, _, _, _, rfl, M, hlen, hrow, ⟨u, dn, by omega⟩, s2, fr⟩)
        have h8' : (rows[(drawn ns (5 + (0 + (i : Int))) many).toNat]).length < 8 := by
          rw [hcl] at h8
          have := of_decide_eq_true h8
          omega
        have f1 := drawn_nn ns (253 + (0 + (i : Int))) (many := ((rows[(drawn ns (5 + (0 + (i : Int))) many).toNat]).length : Int) + 1) psl
        have f2 := drawn_lt ns (253 + (0 + (i : Int))) (many := ((rows[(drawn ns (5 + (0 + (i : Int))) many).toNat]).length : Int) + 1) psl
        have g1 := drawn_nn ns (250 + (0 + (i : Int))) (many := many) (ps1 hm1)
        have g2 := drawn_lt ns (250 + (0 + (i : Int))) (many := many) (ps1 hm1)
        refine ⟨_, rfl, .inl ⟨rfl, _, SqL.of hc⟩, _, rfl, _, rfl, _, _, rfl, rfl, _, rfl, _, _, rfl, .inl (SqL.of hc), _, _, rfl, rfl, a, ns, _, _, rfl, hS3, psl, (kbc hI (by decide)).1, (kbc hI (by decide)).2,
          _, rfl, _, rfl, _, _, rfl, rfl, _, rfl, a, ns, _, _, rfl, hS3, ps1 hm1, (kbc hI (by decide)).1, (kbc hI (by decide)).2, c, _, _, _, rfl, rfl, hc, (by rw [hcl]; exact f1), (by rw [hcl]; omega), (by rw [hcl]; exact small1000 (by omega)), ?_⟩
        rw [map_ins_int]
        refine ⟨as, _, _, _, _, _, _, _, rfl, M.set ec, by rw [List.length_set]; exact hlen, fun r hr => ?_, by rw [List.length_set]; exact shape_ins dn hn du (by omega), same_upd s2 (fr c (List.mem_cons_of_mem _ hca)), fr⟩
        rcases List.mem_or_eq_of_mem_set hr with z | z
        · exact hrow r z
        · rw [z]
          exact rowok_ins hrn h8' (by omega)
      rintro σ' H' ⟨as, rows, x4, x5, x6, x7, x8, x9, rfl, M, hlen, hrow, dn, s2, fr⟩
      have W : Wf rows := ⟨by omega, by omega, fun r hr => by rw [hlen]; exact hrow r hr⟩
      have hS3 : SqL K H' a (ns.map V.int) := s2.seq hS
      refine ⟨_, rfl, a, ns, 3, 2, rfl, hS3, by decide, by decide, by decide, rfl, _, rfl, ?_⟩
      refine ite2 (fun _ => ?_) (fun _ => ⟨_, rfl, q R as rows H' W (dn.down W).open (dn.tame W (by omega)) M s2 fr⟩)
      refine ⟨_, rfl, R, _, rfl, M.sq, ?_⟩
      refine comp_news (ls := (rows.reverse.map fun r => r.map (oth many)).map fun r => r.map V.int) (wk_rev M.sq) (by rw [List.length_reverse, M.reflen]; exact small12 (by omega)) (by simp [M.len]) (fun i x l H3 ex el s3 Q' q' => ?_) (fun as' H1 s1 hlen' nd' fr' hrows' D hD => ?_)
      · have hi : i < rows.length := by
          have := (List.getElem?_eq_some_iff.mp ex).1
          rw [List.length_reverse, M.reflen] at this
          exact this
        rw [List.getElem?_reverse (by rw [M.reflen]; exact hi), M.reflen] at ex
        obtain ⟨c, hi', rfl, ec, hc, _⟩ := M.refs ex
        have el' : l = ((rows[rows.length - 1 - i]).map (oth many)).map V.int := by
          rw [List.getElem?_map, List.getElem?_map, List.getElem?_reverse hi] at el
          rw [List.getElem?_eq_getElem hi'] at el
          exact (Option.some.inj el).symm
        subst el'
        have hc3 := s3 _ _ hc
        refine ⟨_, rfl, c, rfl, ⟨_, SqL.of hc3⟩, ?_⟩
        have hz : ((rows[rows.length - 1 - i]).map V.int).length ≤ sizeLine := by
          have := (hrow _ (List.getElem_mem hi')).2.1
          rw [List.length_map]
          exact small12 (by omega)
        refine comp_pure (ys := ((rows[rows.length - 1 - i]).map (oth many)).map V.int) (wk_list (K := K) (SqL.of hc3)) hz (by simp) (fun j x y ex2 ey2 Q2 q2 => ?_) (fun D hD => q' D hD)
        rw [List.getElem?_map] at ex2 ey2
        rw [List.getElem?_map] at ey2
        cases er : (rows[rows.length - 1 - i])[j]? with
        | none => rw [er] at ex2; cases ex2
        | some z =>
          rw [er] at ex2 ey2
          cases ex2
          cases ey2
          exact ⟨_, rfl, _, rfl, _, _, rfl, q2⟩
      · have hl2 : as'.length = (rows.reverse.map fun r => r.map (oth many)).length := by rw [hlen', List.length_map]
        have hrl : (rows.reverse.map fun r => r.map (oth many)).length = rows.length := by simp
        have W2 : Wf (rows.reverse.map fun r => r.map (oth many)) := ⟨by omega, by omega, fun r hr => by
          rw [hrl]
          obtain ⟨r', hr', rfl⟩ := List.mem_map.mp hr
          exact rowok_oth (W.2.2 r' (List.mem_reverse.mp hr')) (by omega)⟩
        refine ⟨_, rfl, q D as' _ _ W2 (open_rev (dn.down W) (fun r hr e he => by have := (W.2.2 r hr).2.2 e he; exact this) (by omega)) (tame_oth (dn.tame W (by omega)) W (by omega)) (mat_of hl2 nd' s1 hrows' hD) (same_upd (s2.trans s1) ((s2.trans s1).free hD)) fun b hb => ?_⟩
        rcases List.mem_cons.mp hb with z | z
        · rw [z]; exact (s2.trans s1).free hD
        · exact s2.free (fr' b z)
theorem sc_turns_by : FnScope ["script", "rows"] ["script", "rows"] (defScope s_turns_by) := ⟨rfl, rfl, rfl, by decide +kernel, rfl, by decide +kernel, by decide +kernel⟩
theorem ok_turns_by (T : Txt K mg A) (G_drawn : FnOk P w K mg base CX0 1 A.f_drawn A.fd_drawn ["script", "k", "many"] (spDrawn K)) : FnOk P w K mg base CX0 2 A.f_turns_by A.fd_turns_by ["script", "rows"] (spTurns K) := by
  refine T.F_turns_by.ok sc_turns_by (fun vs H Q E h => ?_) (fun cdv A' outer s H vs Q E hr h => ?_)
  · obtain ⟨a, R, as, rows, ns, rfl, _⟩ := h
    rfl
  · obtain ⟨a, R, as, rows, ns, rfl, hS, M, W, q⟩ := h
    refine ⟨_, (pss_one (ps_ret (pe_comp (CompSc.of (N' := ["k", "script", "rows"]) (ix := [none, some 0, some 1]) rfl (by kernel_rfl)) rfl rfl rfl rfl (pi_range1 (by rfl) T.n_range (pa_cons (pe_callB (call_lenK (K := K) rfl) (by rfl) T.n_len PySem.boot_len (pa_cons (pv 1) pa_nil)) pa_nil)) (by exact fun _ _ _ _ _ => pf_nil) (by exact fun _ _ _ _ _ hI => (pe_call G_drawn (hr.mono (by decide)) (by rfl) T.m__law_drawn T.k__law_drawn T.b__law_drawn .nil pass0 (pa_cons (pv 1) (pa_cons (pe_op op_add pe_int (pv 0)) (pa_cons (pe_callB (call_lenK (K := K) rfl) (by rfl) T.n_len PySem.boot_len (pa_cons (pe_ix (ix_listK (K := K) rfl) (pv 2) (pv 0) (fun _ _ => rfl)) pa_nil)) pa_nil))))) (fun _ => rfl)))), ?_⟩
    obtain ⟨w1, w12, wr⟩ := id W
    have hl := M.reflen
    refine ⟨_, rfl, _, _, rfl, .inl M.sq, _, rfl, by omega, by omega, ?_⟩
    have en : (((as.map V.ref).length : Nat) : Int).toNat = rows.length := by rw [hl]; simp
    rw [en]
    refine comp_pure (ys := ((List.range rows.length).map fun (i : Nat) => drawn ns (260 + (0 + (i : Int))) ((rows.getD i []).length : Int)).map V.int) wk_range (by rw [List.length_map, List.length_range]; exact small12 (Nat.le_trans w12 (by decide))) (by simp) (fun j x y ex ey Q' q' => ?_) (fun D hD => ?_)
    · rw [List.getElem?_map] at ex ey
      rw [List.getElem?_map] at ey
      cases er : (List.range rows.length)[j]? with
      | none => rw [er] at ex; cases ex
      | some j' =>
        rw [er] at ex ey
        cases ex
        cases ey
        obtain ⟨hj1, hj2⟩ := List.getElem?_eq_some_iff.mp er
        rw [List.getElem_range] at hj2
        rw [List.length_range] at hj1
        subst hj2
        obtain ⟨c, hat, hc, _⟩ := M.at (z := 0 + (j : Int)) (by omega) (by omega)
        have e1 : (0 + (j : Int)).toNat = j := by omega
        rw [e1] at hc
        have hr1 : 1 ≤ (rows.getD j []).length := by rw [getD_get hj1]; exact (wr _ (List.getElem_mem hj1)).1
        have hlr : ((rows.getD j []).map V.int).length = (rows.getD j []).length := by simp
        refine ⟨_, rfl, _, rfl, _, _, rfl, rfl, _, rfl, _, rfl, _, _, _, _, rfl, rfl, M.sq, hat, _, _, rfl, .inl (SqL.of hc), a, ns, _, _, rfl, hS, by rw [hlr]; omega, by omega, by omega, ?_⟩
        rw [hlr]
        exact q'
    · refine q D _ hD ⟨by simp, fun i hi => ?_⟩
      have hr1 : 1 ≤ (rows.getD i []).length := by rw [getD_get hi]; exact (wr _ (List.getElem_mem hi)).1
      have eg : ((List.range rows.length).map fun (i : Nat) => drawn ns (260 + (0 + (i : Int))) ((rows.getD i []).length : Int)).getD i 0 = drawn ns (260 + (0 + (i : Int))) ((rows.getD i []).length : Int) := by
        rw [getD_get (by simpa using hi), List.getElem_map, List.getElem_range]
      rw [eg]
      exact ⟨drawn_nn _ _ (by omega), drawn_lt _ _ (by omega)⟩
theorem sc_board : FnScope ["rows", "turns", "loads", "board", "k"] ["rows", "turns", "loads"] (defScope s_board) := ⟨rfl, rfl, rfl, by decide +kernel, rfl, by decide +kernel, by decide +kernel⟩
theorem ok_board (T : Txt K mg A) (G_i_Board : FnOk P w K mg base CX0 3 A.f_Binit A.fd_Binit ["self", "rows"] (spInit A.C)) (G_turn_to : FnOk P w K mg base (CX1 P w) 2 A.f_Bturn_to A.fd_Bturn_to ["self", "at", "place"] (spTurn A.C A.c_NoSite A.c_NoPlace)) (G_load : FnOk P w K mg base (CX1 P w) 2 A.f_Bload A.fd_Bload ["self", "at", "many"] (spLoad A.C A.c_NoSite A.c_TooMany)) : FnOk P w K mg base CX0 5 A.f_board A.fd_board ["rows", "turns", "loads"] (spBoard K A.C) := by
  refine T.F_board.ok sc_board (fun vs H Q E h => ?_) (fun cdv A' outer s H vs Q E hr h => ?_)
  · obtain ⟨R, tA, lA, as, rows, ts, ls, rfl, _⟩ := h
    rfl
  · obtain ⟨R, tA, lA, as, rows, ts, ls, rfl, M, W, hT, hL, ⟨tl, tv⟩, ll, lsum, q⟩ := h
    refine ⟨_, (pss_cons (ps_set (i := 3) sc_board.nd rfl (Or.inl rfl) (pe_make T.mk_Board G_i_Board (hr.mono (by decide)) (by rfl) T.m_Board T.bi_Board .nil pass0 (pa_cons (pe_comp (CompSc.of (N' := ["row"]) (ix := [none]) rfl (by kernel_rfl)) rfl rfl rfl rfl (pi_listK (K := K) rfl (pv 0)) (by exact fun _ _ _ _ _ => pf_nil) (by exact fun _ _ _ _ _ hI => (pe_callTy (call_listK (K := K) rfl) (by rfl) T.n_list PyProof.Rows.Boot.«list» (pa_cons (pv 0) pa_nil))) (fun _ => rfl)) pa_nil)))
      (pss_cons (ps_for PassesOwn.never rfl (pi_range1 (by rfl) T.n_range (pa_cons (pe_callB (call_lenK (K := K) rfl) (by rfl) T.n_len PySem.boot_len (pa_cons (pv 0) pa_nil)) pa_nil)) (pg_name (i := 4) sc_board.nd rfl (Or.inl rfl))
        (pss_cons (ps_expr (pe_meth (pv 3) T.cl_Board T.mt_turn_to G_turn_to (hr.mono (by decide)) T.bm_turn_to .nil passE0 (pa_cons (pv 4) (pa_cons (pe_ix (ix_listK (K := K) rfl) (pv 1) (pv 4) (fun _ _ => rfl)) pa_nil))))
        (pss_one (ps_expr (pe_meth (pv 3) T.cl_Board T.mt_load G_load (hr.mono (by decide)) T.bm_load .nil passE0 (pa_cons (pv 4) (pa_cons (pe_ix (ix_listK (K := K) rfl) (pv 2) (pv 4) (fun _ _ => rfl)) pa_nil)))))))
      (pss_one (ps_ret (pv 3))))), ?_⟩
    obtain ⟨w1, w12, wr⟩ := id W
    have hl := M.reflen
    refine ⟨_, rfl, R, rfl, ⟨_, M.sq⟩, ?_⟩
    refine comp_news (ls := rows.map fun r => r.map V.int) (wk_list M.sq) (by rw [hl]; exact small12 (Nat.le_trans w12 (by decide))) (by rw [List.length_map, hl]) (fun i x l H3 ex el s3 Q' q' => ?_) (fun as2 H2' s2 hlen2 nd2 fr2 hrows2 D hD => ?_)
    · obtain ⟨c, hi', rfl, ec, hc, _⟩ := M.refs ex
      rw [List.getElem?_map, List.getElem?_eq_getElem hi'] at el
      cases el
      exact ⟨_, rfl, _, _, rfl, .inl (SqL.of (s3 _ _ hc)), q'⟩
    rw [List.length_map] at hlen2
    have MD := mat_of (H := H) (R := D) hlen2 nd2 s2 hrows2 hD
    have s2' : Same H (upd H2' D (.lst (as2.map V.ref))) := same_upd s2 (s2.free hD)
    generalize upd H2' D (.lst (as2.map V.ref)) = H3 at MD s2'
    intro p dx hp hdx hne
    refine ⟨p, dx, D, as2, rows, rfl, upd_same, MD.same (same_upd (same_new hdx) hp), W, fun aR asB aT aL aS H4 B kp frB => ⟨rfl, ?_⟩⟩
    have s4 : Same H H4 := s2'.trans (made_same hp hdx kp)
    have fr4 : ∀ c ∈ p :: aT :: aL :: aS :: aR :: asB, H c = none := fun c hc => by
      rcases List.mem_cons.mp hc with z | z
      · rw [z]; exact s2'.free hp
      · exact s2'.free (made_none (frB c z))
    refine ⟨_, rfl, _, _, rfl, .inl (M.same s4).sq, _, rfl, by omega, by omega, ?_⟩
    have en : (((as.map V.ref).length : Nat) : Int).toNat = rows.length := by rw [hl]; simp
    rw [en]
    refine for_range (fun i σ H2 => ∃ x4 : Option V, σ = [some (.ref R), some (.ref tA), some (.ref lA), some (.ref p), x4] ∧ BoardAt A.C H2 p dx aR asB aT aL aS ⟨rows, part ts rows.length i, part ls rows.length i, List.replicate rows.length 0, 0⟩ ∧ Same H H2) ⟨none, rfl, ?_, s4⟩ ?_ ?_
    · rw [part_zero, part_zero]
      exact B
    · rintro i σ H2 hi ⟨x4, rfl, B2, s5⟩
      have e0 : (0 + (i : Int)).toNat = i := by omega
      have tvi := tv i hi
      refine ⟨_, rfl, p, dx, _, rfl, B2.ob, (by rfl), _, rfl, _, rfl, _, rfl, _, _, _, _, rfl, rfl, s5.seq hT, at_ints (by omega) (by omega), p, dx, aR, asB, aT, aL, aS, _, _, _, rfl, B2, (by show (part ts rows.length i).length = rows.length; exact part_len tl (by omega)), by omega, by omega, ?_⟩
      rw [e0]
      have hr8 : ((rows.getD i []).length : Int) ≤ 8 := by rw [getD_get hi]; have := (wr _ (List.getElem_mem hi)).2.1; omega
      refine ⟨sm_of (by omega) (by omega), trivial, fun z => absurd ⟨by omega, by show _ < (rows.length : Int); omega⟩ z, fun _ z => absurd tvi z, fun _ _ => ?_⟩
      show _
      have B3 := B2.setT ((part ts rows.length i).set i (ts.getD i 0))
      rw [part_set tl hi] at B3
      dsimp only
      rw [part_set tl hi]
      have s6 : Same H (upd H2 aT (.lst ((part ts rows.length (i + 1)).map V.int))) := same_upd s5 (fr4 aT (by simp))
      refine ⟨_, rfl, p, dx, _, rfl, B3.ob, (by rfl), _, rfl, _, rfl, _, rfl, _, _, _, _, rfl, rfl, s6.seq hL, at_ints (by omega) (by omega), p, dx, aR, asB, aT, aL, aS, _, _, _, rfl, B3, (by show (part ls rows.length i).length = rows.length; exact part_len ll (by omega)), by omega, by omega, fun z => absurd ⟨by omega, by show _ < (rows.length : Int); omega⟩ z, fun _ z => ?_, fun _ _ => ?_⟩
      · exfalso
        rw [e0] at z
        have z' : 400 < (part ls rows.length i).sum + ls.getD i 0 := z
        rw [part_sum, ← take_sum_succ (by omega)] at z'
        have := lsum (i + 1) (by omega)
        omega
      · rw [e0]
        dsimp only
        rw [part_get ll hi, Int.zero_add (ls.getD i 0), part_set ll hi]
        refine ⟨_, rfl, ?_, same_upd s6 (fr4 aL (by simp))⟩
        exact B3.setL _
    · rintro σ H2 ⟨x4, rfl, B2, s5⟩
      rw [part_all tl, part_all ll] at B2
      exact ⟨_, rfl, q p dx aR asB aT aL aS H2 B2 s5 fr4⟩
theorem sc_loads_by : FnScope ["script", "rows", "loads", "many", "j", "at"] ["script", "rows"] (defScope s_loads_by) := ⟨rfl, rfl, rfl, by decide +kernel, rfl, by decide +kernel, by decide +kernel⟩
theorem ok_loads_by (T : Txt K mg A) (G_drawn : FnOk P w K mg base CX0 1 A.f_drawn A.fd_drawn ["script", "k", "many"] (spDrawn K)) : FnOk P w K mg base CX0 2 A.f_loads_by A.fd_loads_by ["script", "rows"] (spLoads K) := by
  refine T.F_loads_by.ok sc_loads_by (fun vs H Q E h => ?_) (fun cdv A' outer s H vs Q E hr h => ?_)
  · obtain ⟨a, R, as, rows, ns, rfl, _⟩ := h
    rfl
  · obtain ⟨a, R, as, rows, ns, rfl, hS, M, W, q⟩ := h
    refine ⟨_, (pss_cons (ps_setComp (i := 2) sc_loads_by.nd rfl rfl (CompSc.of (N' := ["row"]) (ix := [none]) rfl (by kernel_rfl)) rfl rfl rfl rfl (pi_listK (K := K) rfl (pv 1)) (by exact fun _ _ _ _ _ => pf_nil) (by exact fun _ _ _ _ _ hI => pe_int))
      (pss_cons (ps_set (i := 3) sc_loads_by.nd rfl (Or.inl rfl) (pe_call G_drawn (hr.mono (by decide)) (by rfl) T.m__law_drawn T.k__law_drawn T.b__law_drawn .nil pass0 (pa_cons (pv 0) (pa_cons pe_int (pa_cons pe_int pa_nil)))))
      (pss_cons (ps_if (pt_cmpR op_gt (pe_callB (call_lenK (K := K) rfl) (by rfl) T.n_len PySem.boot_len (pa_cons (pv 1) pa_nil)) pe_int (nomark _))
        (pss_one (ps_set (i := 3) sc_loads_by.nd rfl (Or.inl rfl) (pe_call G_drawn (hr.mono (by decide)) (by rfl) T.m__law_drawn T.k__law_drawn T.b__law_drawn .nil pass0 (pa_cons (pv 0) (pa_cons pe_int (pa_cons pe_int pa_nil))))))
        pss_nil)
      (pss_cons (ps_for PassesOwn.never rfl (pi_range1 (by rfl) T.n_range (pa_cons (pv 3) pa_nil)) (pg_name (i := 4) sc_loads_by.nd rfl (Or.inl rfl))
        (pss_cons (ps_set (i := 5) sc_loads_by.nd rfl (Or.inl rfl) (pe_call G_drawn (hr.mono (by decide)) (by rfl) T.m__law_drawn T.k__law_drawn T.b__law_drawn .nil pass0 (pa_cons (pv 0) (pa_cons (pe_op op_add pe_int (pv 4)) (pa_cons (pe_callB (call_lenK (K := K) rfl) (by rfl) T.n_len PySem.boot_len (pa_cons (pv 1) pa_nil)) pa_nil)))))
        (pss_one (ps_asg (pe_op op_add (pe_ix (ix_listK (K := K) rfl) (pv 2) (pv 5) (fun _ _ => rfl)) pe_int) (pg_sub (pv 2) (pv 5) set_list)))))
      (pss_one (ps_ret (pv 2))))))), ?_⟩
    obtain ⟨w1, w12, wr⟩ := id W
    have hl := M.reflen
    refine ⟨_, rfl, R, rfl, ⟨_, M.sq⟩, ?_⟩
    refine comp_pure (ys := (List.replicate rows.length (0 : Int)).map V.int) (wk_list (K := K) M.sq) (by rw [hl]; exact small12 (le100 w12)) (by simp [M.len]) (fun j x y ex ey Q' q' => ?_) (fun D hD => ?_)
    · rw [List.getElem?_map] at ey
      rw [List.getElem?_replicate] at ey
      split at ey
      · cases ey
        exact q'
      · cases ey
    have sD : ∀ o, Same H (upd H D o) := fun o => same_new hD
    have d50 := drawn_nn ns 280 (many := 5) (by decide)
    have d51 := drawn_lt ns 280 (many := 5) (by decide)
    have d20 := drawn_nn ns 280 (many := 21) (by decide)
    have d21 := drawn_lt ns 280 (many := 21) (by decide)
    refine ⟨_, rfl, a, ns, 280, 5, rfl, (sD _).seq hS, by decide, by decide, by decide, ?_⟩
    dsimp only [gName]
    refine seq_mk' (fun σ' H' => ∃ many : Int, 0 ≤ many ∧ many ≤ 20 ∧ σ' = [some (.ref a), some (.ref R), some (.ref D), some (.int many), none, none] ∧ upd H D (.lst ((List.replicate rows.length (0 : Int)).map V.int)) = H') ?rest (fun D1 rest => ?way)
    case way =>
      refine ⟨_, rfl, _, _, rfl, .inl (M.same (sD _)).sq, _, _, rfl, rfl, _, rfl, ?_⟩
      refine ite2 (fun _ => ?_) (fun _ => rest _ _ ⟨_, by omega, by omega, rfl, rfl⟩)
      refine ⟨_, rfl, a, ns, 280, 21, rfl, (sD _).seq hS, by decide, by decide, by decide, ?_⟩
      exact rest _ _ ⟨_, by omega, by omega, rfl, rfl⟩
    rintro σ' H' ⟨many, m0, m1, rfl, rfl⟩
    refine ⟨_, rfl, _, rfl, by omega, by omega, ?_⟩
    refine for_rangeN (fun i σ H2 => ∃ (ls : List Int) (x4 x5 : Option V), σ = [some (.ref a), some (.ref R), some (.ref D), some (.int many), x4, x5] ∧ upd H D (.lst (ls.map V.int)) = H2 ∧ ls.length = rows.length ∧ (∀ i, 0 ≤ ls.getD i 0) ∧ ls.sum = (i : Int)) ⟨_, none, none, rfl, rfl, by simp, rep_nn _, by rw [rep_sum0]; rfl⟩ ?_ ?_
    · rintro i σ H2 hi ⟨ls, x4, x5, rfl, rfl, hll, hnn, hsum⟩ DD hDD
      have d0 := drawn_nn ns (281 + (0 + (i : Int))) (many := (rows.length : Int)) (by omega)
      have d1 := drawn_lt ns (281 + (0 + (i : Int))) (many := (rows.length : Int)) (by omega)
      refine ⟨_, rfl, _, rfl, _, _, rfl, rfl, _, rfl, _, _, rfl, .inl (M.same (sD _)).sq, a, ns, _, _, rfl, (sD _).seq hS, by rw [hl]; omega, by omega, by omega, ?_⟩
      rw [hl]
      generalize drawn ns (281 + (0 + (i : Int))) (rows.length : Int) = at0 at d0 d1
      refine ⟨_, rfl, _, rfl, _, _, _, _, rfl, rfl, SqL.of upd_same, at_ints d0 (by omega), _, _, rfl, rfl, _, rfl, _, rfl, D, _, _, _, rfl, rfl, upd_same, ixN_in d0 (by rw [List.length_map]; omega), ?_⟩
      rw [map_set_int, upd_upd]
      refine hDD _ _ ⟨_, _, _, rfl, rfl, by rw [List.length_set]; exact hll, set_nn hnn (by have := hnn at0.toNat; omega), ?_⟩
      rw [sum_set (by omega)]
      omega
    · rintro σ H2 ⟨ls, x4, x5, rfl, rfl, hll, hnn, hsum⟩
      exact ⟨_, rfl, q D ls hD hll hnn (by omega)⟩
theorem sc_way_word : FnScope ["way"] ["way"] (defScope s_way_word) := ⟨rfl, rfl, rfl, by decide +kernel, rfl, by decide +kernel, by decide +kernel⟩
theorem ok_way_word (T : Txt K mg A) : FnOk P w K mg base CX0 1 A.f_way_word A.fd_way_word ["way"] spWay := by
  refine T.F_way_word.ok sc_way_word (fun vs H Q E h => ?_) (fun cdv A' outer s H vs Q E hr h => ?_)
  · obtain ⟨e, rfl, _⟩ := h
    rfl
  · obtain ⟨e, rfl, hs, q⟩ := h
    refine ⟨_, (pss_one (ps_ret (pe_ifExp (pt_cmpR op_eq (pv 0) (pe_glob (v := .int (-1)) (by rfl) T.g_PIT ⟨_, rfl⟩) (nomark _)) (pe_glob (v := .str "pit") (by rfl) T.g_PIT_WORD ⟨_, rfl⟩) (pe_callTy call_str_int (by rfl) T.n_str PyProof.Rows.Boot.«str» (pa_cons (pv 0) pa_nil))))), ?_⟩
    refine ⟨_, rfl, rfl, _, rfl, ?_⟩
    unfold wordS at q
    refine ite2 (fun h1 => ?_) (fun h1 => ?_)
    · rw [if_pos (by simpa using h1)] at q
      exact q
    · rw [if_neg (by simpa using h1)] at q
      exact ⟨_, rfl, e, rfl, hs.log, q⟩
theorem sc_site_line : FnScope ["board", "at", "numbers", "ways"] ["board", "at"] (defScope s_site_line) := ⟨rfl, rfl, rfl, by decide +kernel, rfl, by decide +kernel, by decide +kernel⟩
theorem ok_site_line (T : Txt K mg A) (G_way_word : FnOk P w K mg base CX0 1 A.f_way_word A.fd_way_word ["way"] spWay) : FnOk P w K mg base CX0 2 A.f_site_line A.fd_site_line ["board", "at"] (spSiteL A.C) := by
  refine T.F_site_line.ok sc_site_line (fun vs H Q E h => ?_) (fun cdv A' outer s H vs Q E hr h => ?_)
  · obtain ⟨p, dx, aR, as, aT, aL, aS, b, i, rfl, _⟩ := h
    rfl
  · obtain ⟨p, dx, aR, as, aT, aL, aS, b, i, rfl, B, S, hi, q⟩ := h
    refine ⟨_, (pss_cons (ps_set (i := 2) sc_site_line.nd rfl (Or.inl rfl) (pe_lst (pa_cons (pe_ix (ix_listK (K := K) rfl) (pe_fldK (K := K) rfl (pv 0) rfl) (pv 1) (fun _ _ => rfl)) (pa_cons (pe_ix (ix_listK (K := K) rfl) (pe_fldK (K := K) rfl (pv 0) rfl) (pv 1) (fun _ _ => rfl)) (pa_cons (pe_ix (ix_listK (K := K) rfl) (pe_fldK (K := K) rfl (pv 0) rfl) (pv 1) (fun _ _ => rfl)) pa_nil)))))
      (pss_cons (ps_setComp (i := 3) sc_site_line.nd rfl rfl (CompSc.of (N' := ["way"]) (ix := [none]) rfl (by kernel_rfl)) rfl rfl rfl rfl (pi_listK (K := K) rfl (pe_ix (ix_listK (K := K) rfl) (pe_fldK (K := K) rfl (pv 0) rfl) (pv 1) (fun _ _ => rfl))) (by exact fun _ _ _ _ _ => pf_nil) (by exact fun _ _ _ _ _ hI => (pe_call G_way_word (hr.mono (by decide)) (by rfl) T.m_way_word T.k_way_word T.b_way_word .nil pass0 (pa_cons (pv 0) pa_nil))))
      (pss_one (ps_ret (pe_bm PySem.F.plainAttrs_str PySem.F.slot_str_join PySem.F.type_str_join (mt_joinK (K := K) rfl) pe_str (pa_cons (pe_op op_cat (pe_op op_cat (pe_comp (CompSc.of (N' := ["number"]) (ix := [none]) rfl (by kernel_rfl)) rfl rfl rfl rfl (pi_listK (K := K) rfl (pv 2)) (by exact fun _ _ _ _ _ => pf_nil) (by exact fun _ _ _ _ _ hI => (pe_callTy call_str_int (by rfl) T.n_str PyProof.Rows.Boot.«str» (pa_cons (pv 0) pa_nil))) (fun _ => rfl)) (pe_lst (pa_cons (pe_glob (v := .str ">") (by rfl) T.g_MARK ⟨_, rfl⟩) pa_nil))) (pv 3)) pa_nil)))))), ?_⟩
    have hT := at_ints (ns := b.turns) (i := (i : Int)) (by omega) (by rw [S.O.T.1]; omega)
    have hL := at_ints (ns := b.loads) (i := (i : Int)) (by omega) (by rw [S.O.L]; omega)
    have hS := at_ints (ns := b.steps) (i := (i : Int)) (by omega) (by rw [S.O.S]; omega)
    rw [Int.toNat_natCast] at hT hL hS
    refine ⟨_, rfl, p, A.C, dx, _, _, rfl, B.ob, T.cl_Board, T.na_turns, bf_turns _ _ _ _ _, _, rfl, _, _, _, _, rfl, rfl, SqL.of B.hT, hT, _, rfl, p, A.C, dx, _, _, rfl, B.ob, T.cl_Board, T.na_loads, bf_loads _ _ _ _ _, _, rfl, _, _, _, _, rfl, rfl, SqL.of B.hL, hL, _, rfl, p, A.C, dx, _, _, rfl, B.ob, T.cl_Board, T.na_steps, bf_steps _ _ _ _ _, _, rfl, _, _, _, _, rfl, rfl, SqL.of B.hS, hS, small12 (by show 3 ≤ 100; decide), fun nA hnA => ?_⟩
    have s1 : Same H (upd H nA (.lst [V.int (b.turns.getD i 0), V.int (b.loads.getD i 0), V.int (b.steps.getD i 0)])) := same_new hnA
    have eN : (upd H nA (.lst [V.int (b.turns.getD i 0), V.int (b.loads.getD i 0), V.int (b.steps.getD i 0)])) nA = some (.lst ([b.turns.getD i 0, b.loads.getD i 0, b.steps.getD i 0].map V.int)) := upd_same
    generalize upd H nA (.lst [V.int (b.turns.getD i 0), V.int (b.loads.getD i 0), V.int (b.steps.getD i 0)]) = H1 at s1 eN
    have B1 := B.same s1
    obtain ⟨c, hat, hc, _⟩ := B1.mat.at (z := (i : Int)) (by omega) (by omega)
    rw [Int.toNat_natCast] at hc
    have hr8 := row_len S.O.W hi
    refine ⟨_, rfl, p, A.C, dx, _, _, rfl, B1.ob, T.cl_Board, T.na_rows, bf_rows _ _ _ _ _, _, rfl, _, _, _, _, rfl, rfl, B1.mat.sq, hat, c, rfl, ⟨_, SqL.of hc⟩, ?_⟩
    refine comp_pure (ys := ((b.rows.getD i []).map wordS).map V.str) (wk_list (K := K) (SqL.of hc)) (by rw [List.length_map]; exact small12 (by omega)) (by simp) (fun j x y ex ey Q' q' => ?_) (fun wA hwA => ?_)
    · rw [List.getElem?_map] at ex ey
      rw [List.getElem?_map] at ey
      cases er : (b.rows.getD i [])[j]? with
      | none => rw [er] at ex; cases ex
      | some e =>
        rw [er] at ex ey
        cases ex
        cases ey
        exact ⟨_, rfl, e, rfl, S.r hi e (List.mem_of_getElem? er), q'⟩
    have s2 : Same H1 (upd H1 wA (.lst (((b.rows.getD i []).map wordS).map V.str))) := same_new hwA
    have eW : (upd H1 wA (.lst (((b.rows.getD i []).map wordS).map V.str))) wA = some (.lst (((b.rows.getD i []).map wordS).map V.str)) := upd_same
    generalize upd H1 wA (.lst (((b.rows.getD i []).map wordS).map V.str)) = H2 at s2 eW
    have eN2 := s2 _ _ eN
    refine ⟨rfl, _, rfl, nA, rfl, ⟨_, SqL.of eN2⟩, ?_⟩
    refine comp_pure (ys := [numS (b.turns.getD i 0), numS (b.loads.getD i 0), numS (b.steps.getD i 0)].map V.str) (wk_list (K := K) (SqL.of eN2)) (small12 (by show 3 ≤ 100; decide)) rfl (fun j x y ex ey Q' q' => ?_) (fun sA hsA => ?_)
    · match j, ex, ey with
      | 0, ex, ey => cases ex; cases ey; exact ⟨_, rfl, _, rfl, (S.t hi).log, q'⟩
      | 1, ex, ey => cases ex; cases ey; exact ⟨_, rfl, _, rfl, (S.l i).log, q'⟩
      | 2, ex, ey => cases ex; cases ey; exact ⟨_, rfl, _, rfl, (S.s i).log, q'⟩
      | j + 3, ex, _ => simp at ex
    have s3 : Same H2 (upd H2 sA (.lst ([numS (b.turns.getD i 0), numS (b.loads.getD i 0), numS (b.steps.getD i 0)].map V.str))) := same_new hsA
    have e3 : (upd H2 sA (.lst ([numS (b.turns.getD i 0), numS (b.loads.getD i 0), numS (b.steps.getD i 0)].map V.str))) sA = some (.lst ([numS (b.turns.getD i 0), numS (b.loads.getD i 0), numS (b.steps.getD i 0)].map V.str)) := upd_same
    generalize upd H2 sA (.lst ([numS (b.turns.getD i 0), numS (b.loads.getD i 0), numS (b.steps.getD i 0)].map V.str)) = H3 at s3 e3
    refine ⟨small12 (by show 1 ≤ 100; decide), fun l4 hl4 => ⟨sA, l4, _, _, rfl, rfl, same_new hl4 _ _ e3, upd_same, small12 (by show 3 + 1 ≤ 100; decide), fun l5 hl5 => ?_⟩⟩
    have s5 : Same H3 (upd (upd H3 l4 (.lst [V.str (Str.ofString ">")])) l5 (.lst ([numS (b.turns.getD i 0), numS (b.loads.getD i 0), numS (b.steps.getD i 0)].map V.str ++ [V.str (Str.ofString ">")]))) := same_upd (same_new hl4) ((same_new hl4).free hl5)
    have e5 : (upd (upd H3 l4 (.lst [V.str (Str.ofString ">")])) l5 (.lst ([numS (b.turns.getD i 0), numS (b.loads.getD i 0), numS (b.steps.getD i 0)].map V.str ++ [V.str (Str.ofString ">")]))) l5 = some (.lst ([numS (b.turns.getD i 0), numS (b.loads.getD i 0), numS (b.steps.getD i 0)].map V.str ++ [V.str (Str.ofString ">")])) := upd_same
    refine ⟨_, rfl, l5, wA, _, _, rfl, rfl, e5, s5 _ _ (s3 _ _ eW), small12 (by simp only [List.length_append, List.length_map, List.length_cons, List.length_nil]; omega), fun l6 hl6 => ?_⟩
    have el : [numS (b.turns.getD i 0), numS (b.loads.getD i 0), numS (b.steps.getD i 0)].map V.str ++ [V.str (Str.ofString ">")] ++ ((b.rows.getD i []).map wordS).map V.str = (lineW (b.turns.getD i 0) (b.loads.getD i 0) (b.steps.getD i 0) (b.rows.getD i [])).map V.str := by
      unfold lineW
      rw [List.map_append, List.map_append]
      rfl
    refine ⟨Str.ofString " ", l6, lineW (b.turns.getD i 0) (b.loads.getD i 0) (b.steps.getD i 0) (b.rows.getD i []), rfl, rfl, by rw [el]; exact SqL.of upd_same, ?_, ?_⟩
    · refine joinOk_of (lineW_len (S.t hi) (S.l i) (S.s i) (S.r hi)) ?_
      have hll : (lineW (b.turns.getD i 0) (b.loads.getD i 0) (b.steps.getD i 0) (b.rows.getD i [])).length ≤ 12 := by
        unfold lineW
        rw [List.length_append, List.length_append, List.length_map]
        show 3 + 1 + _ ≤ 12
        omega
      rw [sp_len]
      omega
    · exact q _ (((s1.trans s2).trans s3).trans (same_upd s5 (s5.free hl6)))
theorem sc_written : FnScope ["board", "lines", "at"] ["board"] (defScope s_written) := ⟨rfl, rfl, rfl, by decide +kernel, rfl, by decide +kernel, by decide +kernel⟩
theorem ok_written (T : Txt K mg A) (G_site_line : FnOk P w K mg base CX0 2 A.f_site_line A.fd_site_line ["board", "at"] (spSiteL A.C)) : FnOk P w K mg base CX0 3 A.f_written A.fd_written ["board"] (spWrit A.C) := by
  refine T.F_written.ok sc_written (fun vs H Q E h => ?_) (fun cdv A' outer s H vs Q E hr h => ?_)
  · obtain ⟨p, dx, aR, as, aT, aL, aS, b, rfl, _⟩ := h
    rfl
  · obtain ⟨p, dx, aR, as, aT, aL, aS, b, rfl, B, S, q⟩ := h
    refine ⟨_, (pss_cons (ps_set (i := 1) sc_written.nd rfl (Or.inl rfl) (pe_lst (pa_cons (pe_op op_add_str (pe_op op_add_str (pe_glob (v := .str "board") (by rfl) T.g_HEAD ⟨_, rfl⟩) pe_str) (pe_callTy call_str_int (by rfl) T.n_str PyProof.Rows.Boot.«str» (pa_cons (pe_fldK (K := K) rfl (pv 0) rfl) pa_nil))) pa_nil)))
      (pss_cons (ps_for PassesOwn.never rfl (pi_range1 (by rfl) T.n_range (pa_cons (pe_callB (call_lenK (K := K) rfl) (by rfl) T.n_len PySem.boot_len (pa_cons (pe_fldK (K := K) rfl (pv 0) rfl) pa_nil)) pa_nil)) (pg_name (i := 2) sc_written.nd rfl (Or.inl rfl))
        (pss_one (ps_expr (pe_bm PySem.F.plainAttrs_list PySem.F.slot_list_append PySem.F.type_list_append mt_append (pv 1) (pa_cons (pe_call G_site_line (hr.mono (by decide)) (by rfl) T.m_site_line T.k_site_line T.b_site_line .nil pass0 (pa_cons (pv 0) (pa_cons (pv 2) pa_nil))) pa_nil)))))
      (pss_one (ps_ret (pe_bm PySem.F.plainAttrs_str PySem.F.slot_str_join PySem.F.type_str_join (mt_joinK (K := K) rfl) pe_str (pa_cons (pv 1) pa_nil)))))), ?_⟩
    have h12 := S.O.W.2.1
    have hb5 : (Str.ofString "board").length + (Str.ofString " ").length ≤ sizeLine := by rw [← Str.length_append]; decide +kernel
    refine ⟨_, _, rfl, rfl, hb5, _, rfl, p, A.C, dx, _, _, rfl, B.ob, T.cl_Board, T.na_taken, bf_taken _ _ _ _ _, _, rfl, S.k.log, _, _, rfl, rfl, ?_, small12 (by show 1 ≤ 100; decide), fun lA hlA => ?_⟩
    · have := head_len S.k
      unfold headS at this
      rw [Str.length_append] at this
      exact size_of (Nat.le_trans this (by decide))
    have s1 : Same H (upd H lA (.lst [V.str (headS b.taken)])) := same_new hlA
    have eL : (upd H lA (.lst [V.str (headS b.taken)])) lA = some (.lst (((linesS b).take 1).map V.str)) := by rw [upd_same]; rfl
    show tSeq _ _ _ _ (upd H lA (.lst [V.str (headS b.taken)]))
    generalize upd H lA (.lst [V.str (headS b.taken)]) = H1 at s1 eL
    have B1 := B.same s1
    have hl := B1.mat.reflen
    have en : (((as.map V.ref).length : Nat) : Int).toNat = b.rows.length := by rw [hl]; simp
    refine ⟨_, rfl, p, A.C, dx, _, _, rfl, B1.ob, T.cl_Board, T.na_rows, bf_rows _ _ _ _ _, _, _, rfl, .inl B1.mat.sq, _, rfl, by omega, by omega, ?_⟩
    rw [en]
    refine for_rangeN (fun i σ H2 => ∃ x2 : Option V, σ = [some (.ref p), some (.ref lA), x2] ∧ Same H H2 ∧ H2 lA = some (.lst (((linesS b).take (i + 1)).map V.str))) ⟨none, rfl, s1, eL⟩ ?_ ?_
    · rintro i σ H2 hi ⟨x2, rfl, s2, e2⟩ DD hDD
      refine ⟨_, rfl, .inl ⟨rfl, _, SqL.of e2⟩, _, rfl, _, rfl, p, dx, aR, as, aT, aL, aS, b, i, (by rw [Int.zero_add]; rfl), B.same s2, S, hi, fun H3 s3 => ?_⟩
      have e3 := s3 _ _ e2
      have hll : (((linesS b).take (i + 1)).map V.str).length ≤ 100 := by
        rw [List.length_map, List.length_take]
        unfold linesS
        rw [List.length_cons, List.length_map, List.length_range]
        omega
      refine ⟨lA, _, _, rfl, rfl, e3, small1000 (by omega), ?_⟩
      refine hDD _ _ ⟨_, rfl, same_upd (s2.trans s3) hlA, ?_⟩
      rw [upd_same, lines_get hi, List.map_append]
      rfl
    · rintro σ H2 ⟨x2, rfl, s2, e2⟩
      have hll : (linesS b).length = b.rows.length + 1 := by unfold linesS; rw [List.length_cons, List.length_map, List.length_range]
      rw [List.take_of_length_le (by rw [hll]; exact Nat.le_refl _)] at e2
      refine ⟨rfl, _, rfl, Str.ofString "\n", lA, linesS b, rfl, rfl, SqL.of e2, joinOk_of S.lines (by rw [hll, nl_len]; omega), ?_⟩
      exact q _ s2
theorem sc_law : FnScope ["script", "rows", "board", "signs", "found", "e"] ["script"] (defScope s_law) := ⟨rfl, rfl, rfl, by decide +kernel, rfl, by decide +kernel, by decide +kernel⟩
theorem ok_law (T : Txt K mg A) (G_drawn : FnOk P w K mg base CX0 1 A.f_drawn A.fd_drawn ["script", "k", "many"] (spDrawn K)) (G_rows_by : FnOk P w K mg base CX0 3 A.f_rows_by A.fd_rows_by ["script"] (spRowsT K)) (G_turns_by : FnOk P w K mg base CX0 2 A.f_turns_by A.fd_turns_by ["script", "rows"] (spTurns K)) (G_loads_by : FnOk P w K mg base CX0 2 A.f_loads_by A.fd_loads_by ["script", "rows"] (spLoads K)) (G_board : FnOk P w K mg base CX0 5 A.f_board A.fd_board ["rows", "turns", "loads"] (spBoard K A.C)) (G_written : FnOk P w K mg base CX0 3 A.f_written A.fd_written ["board"] (spWrit A.C)) (G_changed : FnOk P w K mg base CX0 2 A.f_changed A.fd_changed ["script", "shown"] (spChg K)) (G_odd : FnOk P w K mg base CX0 2 A.f_odd A.fd_odd ["script"] (spOdd K)) (G_read : FnOk P w K mg base (CX1 P w) 6 A.f_read A.fd_read ["text"] (spReadX A)) (G_writes : FnOk P w K mg base CX0 3 A.f_writes A.fd_writes ["signs"] spWrites) (GH_writes : FnH P w K mg base 3 A.f_writes A.fd_writes ["signs"] spWrites) : FnOk P w K mg base CX0 10 A.f_law A.fd_law ["script"] (spLaw K) := by
  refine T.F_law.ok sc_law (fun vs H Q E h => ?_) (fun cdv A' outer s H vs Q E hr h => ?_)
  · obtain ⟨a, ns, rfl, _⟩ := h
    rfl
  · obtain ⟨a, ns, rfl, hS, hlen, q⟩ := h
    refine ⟨_, (pss_cons (ps_set (i := 1) sc_law.nd rfl (Or.inl rfl) (pe_call G_rows_by (hr.mono (by decide)) (by rfl) T.m__law_rows_by T.k__law_rows_by T.b__law_rows_by .nil pass0 (pa_cons (pv 0) pa_nil)))
      (pss_cons (ps_set (i := 2) sc_law.nd rfl (Or.inl rfl) (pe_call G_board (hr.mono (by decide)) (by rfl) T.m__law_board T.k__law_board T.b__law_board .nil pass0 (pa_cons (pv 1) (pa_cons (pe_call G_turns_by (hr.mono (by decide)) (by rfl) T.m__law_turns_by T.k__law_turns_by T.b__law_turns_by .nil pass0 (pa_cons (pv 0) (pa_cons (pv 1) pa_nil))) (pa_cons (pe_call G_loads_by (hr.mono (by decide)) (by rfl) T.m__law_loads_by T.k__law_loads_by T.b__law_loads_by .nil pass0 (pa_cons (pv 0) (pa_cons (pv 1) pa_nil))) pa_nil)))))
      (pss_cons (ps_set (i := 3) sc_law.nd rfl (Or.inl rfl) (pe_call G_changed (hr.mono (by decide)) (by rfl) T.m__law_changed T.k__law_changed T.b__law_changed .nil pass0 (pa_cons (pv 0) (pa_cons (pe_call G_written (hr.mono (by decide)) (by rfl) T.m_written T.k_written T.b_written .nil pass0 (pa_cons (pv 2) pa_nil)) pa_nil))))
      (pss_cons (ps_if (pt_cmpR op_eq (pe_call G_drawn (hr.mono (by decide)) (by rfl) T.m__law_drawn T.k__law_drawn T.b__law_drawn .nil pass0 (pa_cons (pv 0) (pa_cons pe_int (pa_cons pe_int pa_nil)))) pe_int (nomark _))
        (pss_one (ps_set (i := 3) sc_law.nd rfl (Or.inl rfl) (pe_call G_odd (hr.mono (by decide)) (by rfl) T.m__law_odd T.k__law_odd T.b__law_odd .nil pass0 (pa_cons (pv 0) pa_nil))))
        pss_nil)
      (pss_cons (ps_tryA (i := 4) rfl rfl sc_law.nd rfl (Or.inl rfl) (px_call G_read (hr.mono (by decide)) (by rfl) T.m_read T.k_read T.b_read (pa_cons (pv 3) pa_nil))
        (ph_asK (i := 5) sc_law.nd rfl rfl (.inl rfl) (by rfl) T.m_BoardError T.kb_BoardError (by exact fun _ => (pss_cons (ps_if (PW.pt (pw_or (pt_val (pe_callH GH_writes rfl (by have h := Room.h (j := 3) hr (by decide); exact h) (by rfl) T.m__law_writes T.k__law_writes T.b__law_writes (pa_cons (pv 3) pa_nil))) (pw_or (pt_not (pt_val (pe_callB (call_isf (K := K) rfl) (by rfl) T.n_isinstance PyProof.Rows.Boot.«isinstance» (pa_cons (pv 5) (pa_cons (pe_bltn (v := .ty "ValueError") (by rfl) T.n_ValueError PyProof.Rows.Boot.«ValueError» rfl) pa_nil))))) (pw_or1 (pt_not (pt_val (pe_callB (call_isf (K := K) rfl) (by rfl) T.n_isinstance PyProof.Rows.Boot.«isinstance» (pa_cons (pv 5) (pa_cons (pe_glob (v := .ref _) (by rfl) T.m_NoBoard rfl) pa_nil)))))))))
          (pss_one (ps_ret pe_bl))
          pss_nil)
        (pss_one (ps_ret (pe_not (pe_or (pe_callB (call_isf (K := K) rfl) (by rfl) T.n_isinstance PyProof.Rows.Boot.«isinstance» (pa_cons (pv 5) (pa_cons (pe_glob (v := .ref _) (by rfl) T.m_NoSite rfl) pa_nil))) (pe_or (pe_callB (call_isf (K := K) rfl) (by rfl) T.n_isinstance PyProof.Rows.Boot.«isinstance» (pa_cons (pv 5) (pa_cons (pe_glob (v := .ref _) (by rfl) T.m_NoExit rfl) pa_nil))) (pe_or (pe_callB (call_isf (K := K) rfl) (by rfl) T.n_isinstance PyProof.Rows.Boot.«isinstance» (pa_cons (pv 5) (pa_cons (pe_glob (v := .ref _) (by rfl) T.m_NoPlace rfl) pa_nil))) (pe_one (pe_callB (call_isf (K := K) rfl) (by rfl) T.n_isinstance PyProof.Rows.Boot.«isinstance» (pa_cons (pv 5) (pa_cons (pe_glob (v := .ref _) (by rfl) T.m_TooMany rfl) pa_nil)))))))))))) ph_nil))
      (pss_one (ps_ret (pe_and (pe_call G_writes (hr.mono (by decide)) (by rfl) T.m__law_writes T.k__law_writes T.b__law_writes .nil pass0 (pa_cons (pv 3) pa_nil)) (pe_and (pe_callB (call_isiK (K := K) rfl) (by rfl) T.n_isinstance PyProof.Rows.Boot.«isinstance» (pa_cons (pv 4) (pa_cons (pe_glob (v := .ref _) (by rfl) T.m_Board rfl) pa_nil))) (pe_one (pe_cmpR op_eq (pe_call G_written (hr.mono (by decide)) (by rfl) T.m_written T.k_written T.b_written .nil pass0 (pa_cons (pv 4) pa_nil)) (pv 3) (nomark _)))))))))))), ?_⟩
    refine ⟨_, rfl, a, ns, rfl, hS, fun R as rows H1 W op tm M s1 fr1 => ?_⟩
    have hl := M.reflen
    obtain ⟨w1, w12, wr⟩ := id W
    refine ⟨_, rfl, _, rfl, _, rfl, a, R, as, rows, ns, rfl, s1.seq hS, M, W, fun tA ts htA hts => ?_⟩
    have s2 : Same H1 (upd H1 tA (.lst (ts.map V.int))) := same_new htA
    have eT : upd H1 tA (.lst (ts.map V.int)) tA = some (.lst (ts.map V.int)) := upd_same
    generalize upd H1 tA (.lst (ts.map V.int)) = H2 at s2 eT
    have M2 := M.same s2
    have s02 := s1.trans s2
    have ntA := mat_no M htA
    have frL : ∀ x ∈ tA :: R :: as, H x = none := fun x hx => by
      rcases List.mem_cons.mp hx with y | y
      · rw [y]; exact s1.free htA
      · exact fr1 x y
    refine ⟨_, rfl, _, rfl, a, R, as, rows, ns, rfl, s02.seq hS, M2, W, fun lA ls hlA hll hnn hsum => ?_⟩
    have s3 : Same H2 (upd H2 lA (.lst (ls.map V.int))) := same_new hlA
    have eL : upd H2 lA (.lst (ls.map V.int)) lA = some (.lst (ls.map V.int)) := upd_same
    generalize upd H2 lA (.lst (ls.map V.int)) = H3 at s3 eL
    have M3 := M2.same s3
    have eT3 := s3 _ _ eT
    have s03 := s02.trans s3
    refine ⟨R, tA, lA, as, rows, ts, ls, rfl, M3, W, SqL.of eT3, SqL.of eL, hts, hll, fun k hk => by have := take_sum_le hnn k; omega, fun p dx aR asB aT aL aS H4 B4 s4 fr4 => ?_⟩
    have M4 := M3.same s4
    have s04 := s03.trans s4
    have BN : BNu ⟨rows, ts, ls, List.replicate rows.length 0, 0⟩ := bnu_new W hts hll hnn (by omega)
    refine ⟨_, rfl, _, rfl, p, dx, aR, asB, aT, aL, aS, _, rfl, B4, BN.sm, fun H5 s5 => ?_⟩
    refine ⟨a, ns, _, rfl, (s04.trans s5).seq hS, BN, fun z0 H6 Az0 s6 => ?_⟩
    have s06 := (s04.trans s5).trans s6
    dsimp only [gName]
    refine seq_mk' (fun σ' H' => ∃ z : Str, σ' = [some (.ref a), some (.ref R), some (.ref p), some (.str z), none, none] ∧ Asc 20000 z) ?rest1 (fun D1 rest => ?way1)
    case way1 =>
      refine ⟨_, rfl, a, ns, 500, 3, rfl, s06.seq hS, by decide, by decide, by decide, rfl, _, rfl, ?_⟩
      refine ite2 (fun _ => ?_) (fun _ => rest _ _ ⟨z0, rfl, Az0⟩)
      exact ⟨_, rfl, a, ns, rfl, s06.seq hS, fun z H7 Az s7 => rest _ _ ⟨z, rfl, Az⟩⟩
    rintro σ' H7 ⟨z, rfl, Az⟩
    refine ⟨fun cls c H' => cls = .ref A.c_NoBoard ∧ CtxH c H' ∧ ¬ Wr z, ⟨_, rfl, z, rfl, Az, fun W' p2 dx2 aR2 asB2 aT2 aL2 aS2 H8 B8 s8 fr8 => ?_, fun W' c H' hc => ⟨rfl, hc, W'⟩⟩, ?_⟩
    · refine ⟨_, rfl, z, rfl, Az, fun _ H9 s9 => ⟨_, rfl, ?_⟩, fun n => absurd W' n⟩
      refine iteT ?_
      have B9 := B8.same s9
      refine ⟨_, rfl, _, _, _, _, true, rfl, rfl, .ins B9.ob T.cl_Board T.ib1 T.ib2 T.ib3 T.ib4, kit_self, _, rfl, ?_⟩
      refine iteT ?_
      refine ⟨_, rfl, p2, dx2, aR2, asB2, aT2, aL2, aS2, _, rfl, B9, W'.bnu.sm, fun HA sA => ⟨_, rfl, rfl, ?_⟩⟩
      rw [W'.rd.text, decide_eq_true rfl]
      exact q HA
    · rintro cls c H8 ⟨rfl, hc, W'⟩
      refine ⟨A.c_NoBoard, true, rfl, T.ne_NoBoard_BoardError, T.p_NoBoard_BoardError, iteT (fun e o vs he c1 c2 c3 => ?_)⟩
      have ch := chain_new (u := excO A.c_NoBoard e) hc c3 c1 c2
      have he' : (upd H8 e (.frz o (excO A.c_NoBoard e))) e = some (.frz o (excO A.c_NoBoard e)) := upd_same
      generalize upd H8 e (.frz o (excO A.c_NoBoard e)) = H9 at ch he'
      refine ⟨_, rfl, ch, z, rfl, Az, fun w => absurd w W', fun _ HA sA => ⟨_, rfl, ?_⟩⟩
      have h1e := sA _ _ he'
      refine iteF ?_
      refine ⟨_, rfl, e, o, A.c_NoBoard, _, _, true, rfl, rfl, h1e, T.xi_NoBoard, T.qt_NoBoard_ValueError, _, rfl, ?_⟩
      refine iteF ?_
      refine ⟨_, rfl, e, o, A.c_NoBoard, _, _, true, rfl, rfl, h1e, T.xi_NoBoard, kit_self, _, rfl, ?_⟩
      refine iteF ?_
      refine ⟨_, rfl, e, o, A.c_NoBoard, _, _, false, rfl, rfl, h1e, T.xi_NoBoard, T.p_NoBoard_NoSite, _, rfl, ?_⟩
      refine iteF ?_
      refine ⟨_, rfl, e, o, A.c_NoBoard, _, _, false, rfl, rfl, h1e, T.xi_NoBoard, T.p_NoBoard_NoExit, _, rfl, ?_⟩
      refine iteF ?_
      refine ⟨_, rfl, e, o, A.c_NoBoard, _, _, false, rfl, rfl, h1e, T.xi_NoBoard, T.p_NoBoard_NoPlace, _, rfl, ?_⟩
      refine iteF ?_
      exact ⟨_, rfl, e, o, A.c_NoBoard, _, _, false, rfl, rfl, h1e, T.xi_NoBoard, T.p_NoBoard_TooMany, _, rfl, q HA⟩
end
theorem all_mk {l : PySem.W.OpenLaw} {w : World} {K : PySem.W.Frag} {h : Heap} {mg : Str → Option Value} {fa : Addr} (X : K.In h) (G : h.Ns mainGlobals mg) (hfa : mg "law" = some (.ref fa))
    {C : Addr}
    {f_check_rows : Addr} {od_check_rows an_check_rows : Option Addr} {sl_check_rows : Array (Option Value)} {oc_check_rows kV_check_rows dc_check_rows pm_check_rows cd_check_rows ct_check_rows : Value}
    {f_check_row : Addr} {od_check_row an_check_row : Option Addr} {sl_check_row : Array (Option Value)} {oc_check_row kV_check_row dc_check_row pm_check_row cd_check_row ct_check_row : Value}
    {f_check_site : Addr} {od_check_site an_check_site : Option Addr} {sl_check_site : Array (Option Value)} {oc_check_site kV_check_site dc_check_site pm_check_site cd_check_site ct_check_site : Value}
    {f_Binit : Addr} {od_Binit an_Binit : Option Addr} {sl_Binit : Array (Option Value)} {oc_Binit kV_Binit dc_Binit pm_Binit cd_Binit ct_Binit : Value}
    {f_Bturn_to : Addr} {od_Bturn_to an_Bturn_to : Option Addr} {sl_Bturn_to : Array (Option Value)} {oc_Bturn_to kV_Bturn_to dc_Bturn_to pm_Bturn_to cd_Bturn_to ct_Bturn_to : Value}
    {f_Bload : Addr} {od_Bload an_Bload : Option Addr} {sl_Bload : Array (Option Value)} {oc_Bload kV_Bload dc_Bload pm_Bload cd_Bload ct_Bload : Value}
    {f_written : Addr} {od_written an_written : Option Addr} {sl_written : Array (Option Value)} {oc_written kV_written dc_written pm_written cd_written ct_written : Value}
    {f_site_line : Addr} {od_site_line an_site_line : Option Addr} {sl_site_line : Array (Option Value)} {oc_site_line kV_site_line dc_site_line pm_site_line cd_site_line ct_site_line : Value}
    {f_way_word : Addr} {od_way_word an_way_word : Option Addr} {sl_way_word : Array (Option Value)} {oc_way_word kV_way_word dc_way_word pm_way_word cd_way_word ct_way_word : Value}
    {f_read : Addr} {od_read an_read : Option Addr} {sl_read : Array (Option Value)} {oc_read kV_read dc_read pm_read cd_read ct_read : Value}
    {f_told : Addr} {od_told an_told : Option Addr} {sl_told : Array (Option Value)} {oc_told kV_told dc_told pm_told cd_told ct_told : Value}
    {f_read_head : Addr} {od_read_head an_read_head : Option Addr} {sl_read_head : Array (Option Value)} {oc_read_head kV_read_head dc_read_head pm_read_head cd_read_head ct_read_head : Value}
    {f_read_numbers : Addr} {od_read_numbers an_read_numbers : Option Addr} {sl_read_numbers : Array (Option Value)} {oc_read_numbers kV_read_numbers dc_read_numbers pm_read_numbers cd_read_numbers ct_read_numbers : Value}
    {f_read_row : Addr} {od_read_row an_read_row : Option Addr} {sl_read_row : Array (Option Value)} {oc_read_row kV_read_row dc_read_row pm_read_row cd_read_row ct_read_row : Value}
    {f_read_way : Addr} {od_read_way an_read_way : Option Addr} {sl_read_way : Array (Option Value)} {oc_read_way kV_read_way dc_read_way pm_read_way cd_read_way ct_read_way : Value}
    {f_read_number : Addr} {od_read_number an_read_number : Option Addr} {sl_read_number : Array (Option Value)} {oc_read_number kV_read_number dc_read_number pm_read_number cd_read_number ct_read_number : Value}
    {f_drawn : Addr} {od_drawn an_drawn : Option Addr} {sl_drawn : Array (Option Value)} {oc_drawn kV_drawn dc_drawn pm_drawn cd_drawn ct_drawn : Value}
    {f_other : Addr} {od_other an_other : Option Addr} {sl_other : Array (Option Value)} {oc_other kV_other dc_other pm_other cd_other ct_other : Value}
    {f_rows_by : Addr} {od_rows_by an_rows_by : Option Addr} {sl_rows_by : Array (Option Value)} {oc_rows_by kV_rows_by dc_rows_by pm_rows_by cd_rows_by ct_rows_by : Value}
    {f_turns_by : Addr} {od_turns_by an_turns_by : Option Addr} {sl_turns_by : Array (Option Value)} {oc_turns_by kV_turns_by dc_turns_by pm_turns_by cd_turns_by ct_turns_by : Value}
    {f_loads_by : Addr} {od_loads_by an_loads_by : Option Addr} {sl_loads_by : Array (Option Value)} {oc_loads_by kV_loads_by dc_loads_by pm_loads_by cd_loads_by ct_loads_by : Value}
    {f_board : Addr} {od_board an_board : Option Addr} {sl_board : Array (Option Value)} {oc_board kV_board dc_board pm_board cd_board ct_board : Value}
    {f_number : Addr} {od_number an_number : Option Addr} {sl_number : Array (Option Value)} {oc_number kV_number dc_number pm_number cd_number ct_number : Value}
    {f_exit : Addr} {od_exit an_exit : Option Addr} {sl_exit : Array (Option Value)} {oc_exit kV_exit dc_exit pm_exit cd_exit ct_exit : Value}
    {f_writes : Addr} {od_writes an_writes : Option Addr} {sl_writes : Array (Option Value)} {oc_writes kV_writes dc_writes pm_writes cd_writes ct_writes : Value}
    {f_odd : Addr} {od_odd an_odd : Option Addr} {sl_odd : Array (Option Value)} {oc_odd kV_odd dc_odd pm_odd cd_odd ct_odd : Value}
    {f_changed : Addr} {od_changed an_changed : Option Addr} {sl_changed : Array (Option Value)} {oc_changed kV_changed dc_changed pm_changed cd_changed ct_changed : Value}
    {f_law : Addr} {od_law an_law : Option Addr} {sl_law : Array (Option Value)} {oc_law kV_law dc_law pm_law cd_law ct_law : Value}
    {t_PIT : Tok}
    {t_MOST_SITES : Tok}
    {t_MOST_EXITS : Tok}
    {t_MOST_MARBLES : Tok}
    {t_HEAD : Tok}
    {t_MARK : Tok}
    {t_PIT_WORD : Tok}
    {t_FIGURES : Tok}
    {t_MOST_FIGURES : Tok}
    {c_NoSite : Addr}
    {c_NoExit : Addr}
    {c_NoPlace : Addr}
    {c_TooMany : Addr}
    {c_NoBoard : Addr}
    {c_BoardError : Addr}
    (aC : PySem.W.nsIn K mainGlobals "Board" = some (some (.ref C)))
    (a_check_rows : PySem.W.nsIn K mainGlobals "check_rows" = some (some (.ref f_check_rows)))
    (l_check_rows : K.lookup f_check_rows = some ⟨oc_check_rows, od_check_rows, .func (PySem.W.fnOf "check_rows" "check_rows" (defArgs s_check_rows) (defBody s_check_rows) (defScope s_check_rows) .none kV_check_rows dc_check_rows pm_check_rows an_check_rows cd_check_rows ct_check_rows), sl_check_rows⟩) (c_check_rows : PySem.W.codeIn K cd_check_rows "check_rows" = true) (k_check_rows : PySem.W.keepIn K (.ref f_check_rows) = true)
    (a_check_row : PySem.W.nsIn K mainGlobals "check_row" = some (some (.ref f_check_row)))
    (l_check_row : K.lookup f_check_row = some ⟨oc_check_row, od_check_row, .func (PySem.W.fnOf "check_row" "check_row" (defArgs s_check_row) (defBody s_check_row) (defScope s_check_row) .none kV_check_row dc_check_row pm_check_row an_check_row cd_check_row ct_check_row), sl_check_row⟩) (c_check_row : PySem.W.codeIn K cd_check_row "check_row" = true) (k_check_row : PySem.W.keepIn K (.ref f_check_row) = true)
    (a_check_site : PySem.W.nsIn K mainGlobals "check_site" = some (some (.ref f_check_site)))
    (l_check_site : K.lookup f_check_site = some ⟨oc_check_site, od_check_site, .func (PySem.W.fnOf "check_site" "check_site" (defArgs s_check_site) (defBody s_check_site) (defScope s_check_site) .none kV_check_site dc_check_site pm_check_site an_check_site cd_check_site ct_check_site), sl_check_site⟩) (c_check_site : PySem.W.codeIn K cd_check_site "check_site" = true) (k_check_site : PySem.W.keepIn K (.ref f_check_site) = true)
    (a_Binit : PySem.W.findIn K (.ref C) "__init__" = some (some (.ref f_Binit))) (i_Binit : PySem.W.isFn K (.ref f_Binit) = true)
    (l_Binit : K.lookup f_Binit = some ⟨oc_Binit, od_Binit, .func (PySem.W.fnOf "__init__" "Board.__init__" (defArgs s_Binit) (defBody s_Binit) (defScope s_Binit) .none kV_Binit dc_Binit pm_Binit an_Binit cd_Binit ct_Binit), sl_Binit⟩) (c_Binit : PySem.W.codeIn K cd_Binit "Board.__init__" = true) (k_Binit : PySem.W.keepIn K (.ref f_Binit) = true)
    (a_Bturn_to : PySem.W.findIn K (.ref C) "turn_to" = some (some (.ref f_Bturn_to))) (i_Bturn_to : PySem.W.isFn K (.ref f_Bturn_to) = true)
    (l_Bturn_to : K.lookup f_Bturn_to = some ⟨oc_Bturn_to, od_Bturn_to, .func (PySem.W.fnOf "turn_to" "Board.turn_to" (defArgs s_Bturn_to) (defBody s_Bturn_to) (defScope s_Bturn_to) .none kV_Bturn_to dc_Bturn_to pm_Bturn_to an_Bturn_to cd_Bturn_to ct_Bturn_to), sl_Bturn_to⟩) (c_Bturn_to : PySem.W.codeIn K cd_Bturn_to "Board.turn_to" = true) (k_Bturn_to : PySem.W.keepIn K (.ref f_Bturn_to) = true)
    (a_Bload : PySem.W.findIn K (.ref C) "load" = some (some (.ref f_Bload))) (i_Bload : PySem.W.isFn K (.ref f_Bload) = true)
    (l_Bload : K.lookup f_Bload = some ⟨oc_Bload, od_Bload, .func (PySem.W.fnOf "load" "Board.load" (defArgs s_Bload) (defBody s_Bload) (defScope s_Bload) .none kV_Bload dc_Bload pm_Bload an_Bload cd_Bload ct_Bload), sl_Bload⟩) (c_Bload : PySem.W.codeIn K cd_Bload "Board.load" = true) (k_Bload : PySem.W.keepIn K (.ref f_Bload) = true)
    (a_written : PySem.W.nsIn K mainGlobals "written" = some (some (.ref f_written)))
    (l_written : K.lookup f_written = some ⟨oc_written, od_written, .func (PySem.W.fnOf "written" "written" (defArgs s_written) (defBody s_written) (defScope s_written) .none kV_written dc_written pm_written an_written cd_written ct_written), sl_written⟩) (c_written : PySem.W.codeIn K cd_written "written" = true) (k_written : PySem.W.keepIn K (.ref f_written) = true)
    (a_site_line : PySem.W.nsIn K mainGlobals "site_line" = some (some (.ref f_site_line)))
    (l_site_line : K.lookup f_site_line = some ⟨oc_site_line, od_site_line, .func (PySem.W.fnOf "site_line" "site_line" (defArgs s_site_line) (defBody s_site_line) (defScope s_site_line) .none kV_site_line dc_site_line pm_site_line an_site_line cd_site_line ct_site_line), sl_site_line⟩) (c_site_line : PySem.W.codeIn K cd_site_line "site_line" = true) (k_site_line : PySem.W.keepIn K (.ref f_site_line) = true)
    (a_way_word : PySem.W.nsIn K mainGlobals "way_word" = some (some (.ref f_way_word)))
    (l_way_word : K.lookup f_way_word = some ⟨oc_way_word, od_way_word, .func (PySem.W.fnOf "way_word" "way_word" (defArgs s_way_word) (defBody s_way_word) (defScope s_way_word) .none kV_way_word dc_way_word pm_way_word an_way_word cd_way_word ct_way_word), sl_way_word⟩) (c_way_word : PySem.W.codeIn K cd_way_word "way_word" = true) (k_way_word : PySem.W.keepIn K (.ref f_way_word) = true)
    (a_read : PySem.W.nsIn K mainGlobals "read" = some (some (.ref f_read)))
    (l_read : K.lookup f_read = some ⟨oc_read, od_read, .func (PySem.W.fnOf "read" "read" (defArgs s_read) (defBody s_read) (defScope s_read) .none kV_read dc_read pm_read an_read cd_read ct_read), sl_read⟩) (c_read : PySem.W.codeIn K cd_read "read" = true) (k_read : PySem.W.keepIn K (.ref f_read) = true)
    (a_told : PySem.W.nsIn K mainGlobals "told" = some (some (.ref f_told)))
    (l_told : K.lookup f_told = some ⟨oc_told, od_told, .func (PySem.W.fnOf "told" "told" (defArgs s_told) (defBody s_told) (defScope s_told) .none kV_told dc_told pm_told an_told cd_told ct_told), sl_told⟩) (c_told : PySem.W.codeIn K cd_told "told" = true) (k_told : PySem.W.keepIn K (.ref f_told) = true)
    (a_read_head : PySem.W.nsIn K mainGlobals "read_head" = some (some (.ref f_read_head)))
    (l_read_head : K.lookup f_read_head = some ⟨oc_read_head, od_read_head, .func (PySem.W.fnOf "read_head" "read_head" (defArgs s_read_head) (defBody s_read_head) (defScope s_read_head) .none kV_read_head dc_read_head pm_read_head an_read_head cd_read_head ct_read_head), sl_read_head⟩) (c_read_head : PySem.W.codeIn K cd_read_head "read_head" = true) (k_read_head : PySem.W.keepIn K (.ref f_read_head) = true)
    (a_read_numbers : PySem.W.nsIn K mainGlobals "read_numbers" = some (some (.ref f_read_numbers)))
    (l_read_numbers : K.lookup f_read_numbers = some ⟨oc_read_numbers, od_read_numbers, .func (PySem.W.fnOf "read_numbers" "read_numbers" (defArgs s_read_numbers) (defBody s_read_numbers) (defScope s_read_numbers) .none kV_read_numbers dc_read_numbers pm_read_numbers an_read_numbers cd_read_numbers ct_read_numbers), sl_read_numbers⟩) (c_read_numbers : PySem.W.codeIn K cd_read_numbers "read_numbers" = true) (k_read_numbers : PySem.W.keepIn K (.ref f_read_numbers) = true)
    (a_read_row : PySem.W.nsIn K mainGlobals "read_row" = some (some (.ref f_read_row)))
    (l_read_row : K.lookup f_read_row = some ⟨oc_read_row, od_read_row, .func (PySem.W.fnOf "read_row" "read_row" (defArgs s_read_row) (defBody s_read_row) (defScope s_read_row) .none kV_read_row dc_read_row pm_read_row an_read_row cd_read_row ct_read_row), sl_read_row⟩) (c_read_row : PySem.W.codeIn K cd_read_row "read_row" = true) (k_read_row : PySem.W.keepIn K (.ref f_read_row) = true)
    (a_read_way : PySem.W.nsIn K mainGlobals "read_way" = some (some (.ref f_read_way)))
    (l_read_way : K.lookup f_read_way = some ⟨oc_read_way, od_read_way, .func (PySem.W.fnOf "read_way" "read_way" (defArgs s_read_way) (defBody s_read_way) (defScope s_read_way) .none kV_read_way dc_read_way pm_read_way an_read_way cd_read_way ct_read_way), sl_read_way⟩) (c_read_way : PySem.W.codeIn K cd_read_way "read_way" = true) (k_read_way : PySem.W.keepIn K (.ref f_read_way) = true)
    (a_read_number : PySem.W.nsIn K mainGlobals "read_number" = some (some (.ref f_read_number)))
    (l_read_number : K.lookup f_read_number = some ⟨oc_read_number, od_read_number, .func (PySem.W.fnOf "read_number" "read_number" (defArgs s_read_number) (defBody s_read_number) (defScope s_read_number) .none kV_read_number dc_read_number pm_read_number an_read_number cd_read_number ct_read_number), sl_read_number⟩) (c_read_number : PySem.W.codeIn K cd_read_number "read_number" = true) (k_read_number : PySem.W.keepIn K (.ref f_read_number) = true)
    (a_drawn : PySem.W.nsIn K mainGlobals "_law_drawn" = some (some (.ref f_drawn)))
    (l_drawn : K.lookup f_drawn = some ⟨oc_drawn, od_drawn, .func (PySem.W.fnOf "_law_drawn" "_law_drawn" (defArgs s_drawn) (defBody s_drawn) (defScope s_drawn) .none kV_drawn dc_drawn pm_drawn an_drawn cd_drawn ct_drawn), sl_drawn⟩) (c_drawn : PySem.W.codeIn K cd_drawn "_law_drawn" = true) (k_drawn : PySem.W.keepIn K (.ref f_drawn) = true)
    (a_other : PySem.W.nsIn K mainGlobals "_law_other" = some (some (.ref f_other)))
    (l_other : K.lookup f_other = some ⟨oc_other, od_other, .func (PySem.W.fnOf "_law_other" "_law_other" (defArgs s_other) (defBody s_other) (defScope s_other) .none kV_other dc_other pm_other an_other cd_other ct_other), sl_other⟩) (c_other : PySem.W.codeIn K cd_other "_law_other" = true) (k_other : PySem.W.keepIn K (.ref f_other) = true)
    (a_rows_by : PySem.W.nsIn K mainGlobals "_law_rows_by" = some (some (.ref f_rows_by)))
    (l_rows_by : K.lookup f_rows_by = some ⟨oc_rows_by, od_rows_by, .func (PySem.W.fnOf "_law_rows_by" "_law_rows_by" (defArgs s_rows_by) (defBody s_rows_by) (defScope s_rows_by) .none kV_rows_by dc_rows_by pm_rows_by an_rows_by cd_rows_by ct_rows_by), sl_rows_by⟩) (c_rows_by : PySem.W.codeIn K cd_rows_by "_law_rows_by" = true) (k_rows_by : PySem.W.keepIn K (.ref f_rows_by) = true)
    (a_turns_by : PySem.W.nsIn K mainGlobals "_law_turns_by" = some (some (.ref f_turns_by)))
    (l_turns_by : K.lookup f_turns_by = some ⟨oc_turns_by, od_turns_by, .func (PySem.W.fnOf "_law_turns_by" "_law_turns_by" (defArgs s_turns_by) (defBody s_turns_by) (defScope s_turns_by) .none kV_turns_by dc_turns_by pm_turns_by an_turns_by cd_turns_by ct_turns_by), sl_turns_by⟩) (c_turns_by : PySem.W.codeIn K cd_turns_by "_law_turns_by" = true) (k_turns_by : PySem.W.keepIn K (.ref f_turns_by) = true)
    (a_loads_by : PySem.W.nsIn K mainGlobals "_law_loads_by" = some (some (.ref f_loads_by)))
    (l_loads_by : K.lookup f_loads_by = some ⟨oc_loads_by, od_loads_by, .func (PySem.W.fnOf "_law_loads_by" "_law_loads_by" (defArgs s_loads_by) (defBody s_loads_by) (defScope s_loads_by) .none kV_loads_by dc_loads_by pm_loads_by an_loads_by cd_loads_by ct_loads_by), sl_loads_by⟩) (c_loads_by : PySem.W.codeIn K cd_loads_by "_law_loads_by" = true) (k_loads_by : PySem.W.keepIn K (.ref f_loads_by) = true)
    (a_board : PySem.W.nsIn K mainGlobals "_law_board" = some (some (.ref f_board)))
    (l_board : K.lookup f_board = some ⟨oc_board, od_board, .func (PySem.W.fnOf "_law_board" "_law_board" (defArgs s_board) (defBody s_board) (defScope s_board) .none kV_board dc_board pm_board an_board cd_board ct_board), sl_board⟩) (c_board : PySem.W.codeIn K cd_board "_law_board" = true) (k_board : PySem.W.keepIn K (.ref f_board) = true)
    (a_number : PySem.W.nsIn K mainGlobals "_law_number" = some (some (.ref f_number)))
    (l_number : K.lookup f_number = some ⟨oc_number, od_number, .func (PySem.W.fnOf "_law_number" "_law_number" (defArgs s_number) (defBody s_number) (defScope s_number) .none kV_number dc_number pm_number an_number cd_number ct_number), sl_number⟩) (c_number : PySem.W.codeIn K cd_number "_law_number" = true) (k_number : PySem.W.keepIn K (.ref f_number) = true)
    (a_exit : PySem.W.nsIn K mainGlobals "_law_exit" = some (some (.ref f_exit)))
    (l_exit : K.lookup f_exit = some ⟨oc_exit, od_exit, .func (PySem.W.fnOf "_law_exit" "_law_exit" (defArgs s_exit) (defBody s_exit) (defScope s_exit) .none kV_exit dc_exit pm_exit an_exit cd_exit ct_exit), sl_exit⟩) (c_exit : PySem.W.codeIn K cd_exit "_law_exit" = true) (k_exit : PySem.W.keepIn K (.ref f_exit) = true)
    (a_writes : PySem.W.nsIn K mainGlobals "_law_writes" = some (some (.ref f_writes)))
    (l_writes : K.lookup f_writes = some ⟨oc_writes, od_writes, .func (PySem.W.fnOf "_law_writes" "_law_writes" (defArgs s_writes) (defBody s_writes) (defScope s_writes) .none kV_writes dc_writes pm_writes an_writes cd_writes ct_writes), sl_writes⟩) (c_writes : PySem.W.codeIn K cd_writes "_law_writes" = true) (k_writes : PySem.W.keepIn K (.ref f_writes) = true)
    (a_odd : PySem.W.nsIn K mainGlobals "_law_odd" = some (some (.ref f_odd)))
    (l_odd : K.lookup f_odd = some ⟨oc_odd, od_odd, .func (PySem.W.fnOf "_law_odd" "_law_odd" (defArgs s_odd) (defBody s_odd) (defScope s_odd) .none kV_odd dc_odd pm_odd an_odd cd_odd ct_odd), sl_odd⟩) (c_odd : PySem.W.codeIn K cd_odd "_law_odd" = true) (k_odd : PySem.W.keepIn K (.ref f_odd) = true)
    (a_changed : PySem.W.nsIn K mainGlobals "_law_changed" = some (some (.ref f_changed)))
    (l_changed : K.lookup f_changed = some ⟨oc_changed, od_changed, .func (PySem.W.fnOf "_law_changed" "_law_changed" (defArgs s_changed) (defBody s_changed) (defScope s_changed) .none kV_changed dc_changed pm_changed an_changed cd_changed ct_changed), sl_changed⟩) (c_changed : PySem.W.codeIn K cd_changed "_law_changed" = true) (k_changed : PySem.W.keepIn K (.ref f_changed) = true)
    (a_law : PySem.W.nsIn K mainGlobals "law" = some (some (.ref f_law)))
    (l_law : K.lookup f_law = some ⟨oc_law, od_law, .func (PySem.W.fnOf "law" "law" (defArgs s_law) (defBody s_law) (defScope s_law) .none kV_law dc_law pm_law an_law cd_law ct_law), sl_law⟩) (c_law : PySem.W.codeIn K cd_law "law" = true) (k_law : PySem.W.keepIn K (.ref f_law) = true)
    (pg : PySem.W.plainGet K C Str.empty = true) (hd : PySem.W.hasDictIn K C = true) (po : PySem.W.plainOver K C = true) (sa : PySem.W.findIn K (.ref C) "__setattr__" = some (some (.builtin "object.__setattr__"))) (mk : PySem.W.makesIn K C = true) (kc : PySem.W.keepIn K (.ref C) = true)
    (na_rows : PySem.W.findIn K (.ref C) "rows" = some none)
    (na_turns : PySem.W.findIn K (.ref C) "turns" = some none)
    (na_loads : PySem.W.findIn K (.ref C) "loads" = some none)
    (na_steps : PySem.W.findIn K (.ref C) "steps" = some none)
    (na_taken : PySem.W.findIn K (.ref C) "taken" = some none)
    (z_len : PySem.W.nsIn K mainGlobals "len" = some none)
    (z_range : PySem.W.nsIn K mainGlobals "range" = some none)
    (z_isinstance : PySem.W.nsIn K mainGlobals "isinstance" = some none)
    (z_int : PySem.W.nsIn K mainGlobals "int" = some none)
    (z_list : PySem.W.nsIn K mainGlobals "list" = some none)
    (z_reversed : PySem.W.nsIn K mainGlobals "reversed" = some none)
    (z_sum : PySem.W.nsIn K mainGlobals "sum" = some none)
    (z_all : PySem.W.nsIn K mainGlobals "all" = some none)
    (z_enumerate : PySem.W.nsIn K mainGlobals "enumerate" = some none)
    (z_max : PySem.W.nsIn K mainGlobals "max" = some none)
    (z_min : PySem.W.nsIn K mainGlobals "min" = some none)
    (z_str : PySem.W.nsIn K mainGlobals "str" = some none)
    (z_ValueError : PySem.W.nsIn K mainGlobals "ValueError" = some none)
    (g_PIT : PySem.W.nsIn K mainGlobals "PIT" = some (some (.int (-1) t_PIT)))
    (g_MOST_SITES : PySem.W.nsIn K mainGlobals "MOST_SITES" = some (some (.int (12) t_MOST_SITES)))
    (g_MOST_EXITS : PySem.W.nsIn K mainGlobals "MOST_EXITS" = some (some (.int (8) t_MOST_EXITS)))
    (g_MOST_MARBLES : PySem.W.nsIn K mainGlobals "MOST_MARBLES" = some (some (.int (400) t_MOST_MARBLES)))
    (g_HEAD : PySem.W.nsIn K mainGlobals "HEAD" = some (some (.str "board" t_HEAD)))
    (g_MARK : PySem.W.nsIn K mainGlobals "MARK" = some (some (.str ">" t_MARK)))
    (g_PIT_WORD : PySem.W.nsIn K mainGlobals "PIT_WORD" = some (some (.str "pit" t_PIT_WORD)))
    (g_FIGURES : PySem.W.nsIn K mainGlobals "FIGURES" = some (some (.str "0123456789" t_FIGURES)))
    (g_MOST_FIGURES : PySem.W.nsIn K mainGlobals "MOST_FIGURES" = some (some (.int (20) t_MOST_FIGURES)))
    (ax_NoSite : PySem.W.nsIn K mainGlobals "NoSite" = some (some (.ref c_NoSite)))
    (ex_NoSite : PySem.W.excIn K c_NoSite vErr "ValueError.__new__" = true)
    (kb_NoSite : PySem.W.kitOne K (.ref c_NoSite) (.type "BaseException") = some true)
    (ax_NoExit : PySem.W.nsIn K mainGlobals "NoExit" = some (some (.ref c_NoExit)))
    (ex_NoExit : PySem.W.excIn K c_NoExit vErr "ValueError.__new__" = true)
    (kb_NoExit : PySem.W.kitOne K (.ref c_NoExit) (.type "BaseException") = some true)
    (ax_NoPlace : PySem.W.nsIn K mainGlobals "NoPlace" = some (some (.ref c_NoPlace)))
    (ex_NoPlace : PySem.W.excIn K c_NoPlace vErr "ValueError.__new__" = true)
    (kb_NoPlace : PySem.W.kitOne K (.ref c_NoPlace) (.type "BaseException") = some true)
    (ax_TooMany : PySem.W.nsIn K mainGlobals "TooMany" = some (some (.ref c_TooMany)))
    (ex_TooMany : PySem.W.excIn K c_TooMany vErr "ValueError.__new__" = true)
    (kb_TooMany : PySem.W.kitOne K (.ref c_TooMany) (.type "BaseException") = some true)
    (ax_NoBoard : PySem.W.nsIn K mainGlobals "NoBoard" = some (some (.ref c_NoBoard)))
    (ex_NoBoard : PySem.W.excIn K c_NoBoard vErr "ValueError.__new__" = true)
    (kb_NoBoard : PySem.W.kitOne K (.ref c_NoBoard) (.type "BaseException") = some true)
    (ax_BoardError : PySem.W.nsIn K mainGlobals "BoardError" = some (some (.ref c_BoardError)))
    (ex_BoardError : PySem.W.excIn K c_BoardError vErr "ValueError.__new__" = true)
    (kb_BoardError : PySem.W.kitOne K (.ref c_BoardError) (.type "BaseException") = some true)
    (p_NoSite_BoardError : PySem.W.kitOne K (.ref c_NoSite) (.ref c_BoardError) = some true)
    (ne_NoSite_BoardError : c_NoSite ≠ c_BoardError)
    (p_NoExit_BoardError : PySem.W.kitOne K (.ref c_NoExit) (.ref c_BoardError) = some true)
    (ne_NoExit_BoardError : c_NoExit ≠ c_BoardError)
    (p_NoPlace_BoardError : PySem.W.kitOne K (.ref c_NoPlace) (.ref c_BoardError) = some true)
    (ne_NoPlace_BoardError : c_NoPlace ≠ c_BoardError)
    (p_TooMany_BoardError : PySem.W.kitOne K (.ref c_TooMany) (.ref c_BoardError) = some true)
    (ne_TooMany_BoardError : c_TooMany ≠ c_BoardError)
    (p_NoBoard_BoardError : PySem.W.kitOne K (.ref c_NoBoard) (.ref c_BoardError) = some true)
    (ne_NoBoard_BoardError : c_NoBoard ≠ c_BoardError)
    (p_NoBoard_NoSite : PySem.W.kitOne K (.ref c_NoBoard) (.ref c_NoSite) = some false)
    (ne_NoBoard_NoSite : c_NoBoard ≠ c_NoSite)
    (p_NoBoard_NoExit : PySem.W.kitOne K (.ref c_NoBoard) (.ref c_NoExit) = some false)
    (ne_NoBoard_NoExit : c_NoBoard ≠ c_NoExit)
    (p_NoBoard_NoPlace : PySem.W.kitOne K (.ref c_NoBoard) (.ref c_NoPlace) = some false)
    (ne_NoBoard_NoPlace : c_NoBoard ≠ c_NoPlace)
    (p_NoBoard_TooMany : PySem.W.kitOne K (.ref c_NoBoard) (.ref c_TooMany) = some false)
    (ne_NoBoard_TooMany : c_NoBoard ≠ c_TooMany)
    (y1_NoBoard : PySem.W.findIn K (.ref c_NoBoard) "__getattribute__" = some (some (.builtin "BaseException.__getattribute__"))) (y7_NoBoard : PySem.W.findIn K (.ref c_NoBoard) "__getattr__" = some none) (y2_NoBoard : PySem.W.hasDictIn K c_NoBoard = true) (y3_NoBoard : PySem.W.findIn K (.ref c_NoBoard) "__class__" = some (some (.builtin "object.__class__"))) (y6_NoBoard : PySem.W.mroIn K c_NoBoard (.type "object") = some true)
    (y4 : PySem.W.specialIn K (.builtin "object.__class__") "__get__" = some (some (.builtin "getset_descriptor.__get__"))) (y5 : PySem.W.takesIn K (.builtin "object.__class__") = some true)
    (ib1 : PySem.W.findIn K (.ref C) "__class__" = some (some (.builtin "object.__class__"))) (ib2 : PySem.W.specialIn K (.builtin "object.__class__") "__get__" = some (some (.builtin "getset_descriptor.__get__"))) (ib3 : PySem.W.takesIn K (.builtin "object.__class__") = some true) (ib4 : PySem.W.mroIn K C (.type "object") = some true)
    (qt_NoBoard_ValueError : PySem.W.kitOne K (.ref c_NoBoard) (.type "ValueError") = some true)
    (q_int_bool : PySem.W.kitOne K (.type "int") (.type "bool") = some false)
    : ∃ fd : FuncData, (∀ (s : Shared) (v : Value), BindsTo s fd ⟨[v], []⟩ [("script", v)]) ∧ ∀ base : Heap, K.In base → base.Ns mainGlobals mg → FnOk l.prog w K mg base CX0 10 fa fd ["script"] (spLaw K) := by
  have e := hfa.symm.trans (PySem.W.mg_of X G a_law)
  cases e
  have F_check_rows := fun_mk (st := s_check_rows) l_check_rows c_check_rows k_check_rows
  have b_check_rows := F_check_rows.binds1 (p0 := "rows") fun _ _ _ _ _ _ _ => rfl
  have F_check_row := fun_mk (st := s_check_row) l_check_row c_check_row k_check_row
  have b_check_row := F_check_row.binds2 (p0 := "row") (p1 := "sites") fun _ _ _ _ _ _ _ _ => rfl
  have F_check_site := fun_mk (st := s_check_site) l_check_site c_check_site k_check_site
  have b_check_site := F_check_site.binds2 (p0 := "board") (p1 := "at") fun _ _ _ _ _ _ _ _ => rfl
  have F_Binit := fun_mk (st := s_Binit) l_Binit c_Binit k_Binit
  have b_Binit := F_Binit.binds2 (p0 := "self") (p1 := "rows") fun _ _ _ _ _ _ _ _ => rfl
  have F_Bturn_to := fun_mk (st := s_Bturn_to) l_Bturn_to c_Bturn_to k_Bturn_to
  have b_Bturn_to := F_Bturn_to.binds3 (p0 := "self") (p1 := "at") (p2 := "place") fun _ _ _ _ _ _ _ _ _ => rfl
  have F_Bload := fun_mk (st := s_Bload) l_Bload c_Bload k_Bload
  have b_Bload := F_Bload.binds3 (p0 := "self") (p1 := "at") (p2 := "many") fun _ _ _ _ _ _ _ _ _ => rfl
  have F_written := fun_mk (st := s_written) l_written c_written k_written
  have b_written := F_written.binds1 (p0 := "board") fun _ _ _ _ _ _ _ => rfl
  have F_site_line := fun_mk (st := s_site_line) l_site_line c_site_line k_site_line
  have b_site_line := F_site_line.binds2 (p0 := "board") (p1 := "at") fun _ _ _ _ _ _ _ _ => rfl
  have F_way_word := fun_mk (st := s_way_word) l_way_word c_way_word k_way_word
  have b_way_word := F_way_word.binds1 (p0 := "way") fun _ _ _ _ _ _ _ => rfl
  have F_read := fun_mk (st := s_read) l_read c_read k_read
  have b_read := F_read.binds1 (p0 := "text") fun _ _ _ _ _ _ _ => rfl
  have F_told := fun_mk (st := s_told) l_told c_told k_told
  have b_told := F_told.binds2 (p0 := "rows") (p1 := "numbers") fun _ _ _ _ _ _ _ _ => rfl
  have F_read_head := fun_mk (st := s_read_head) l_read_head c_read_head k_read_head
  have b_read_head := F_read_head.binds1 (p0 := "words") fun _ _ _ _ _ _ _ => rfl
  have F_read_numbers := fun_mk (st := s_read_numbers) l_read_numbers c_read_numbers k_read_numbers
  have b_read_numbers := F_read_numbers.binds1 (p0 := "words") fun _ _ _ _ _ _ _ => rfl
  have F_read_row := fun_mk (st := s_read_row) l_read_row c_read_row k_read_row
  have b_read_row := F_read_row.binds1 (p0 := "words") fun _ _ _ _ _ _ _ => rfl
  have F_read_way := fun_mk (st := s_read_way) l_read_way c_read_way k_read_way
  have b_read_way := F_read_way.binds1 (p0 := "word") fun _ _ _ _ _ _ _ => rfl
  have F_read_number := fun_mk (st := s_read_number) l_read_number c_read_number k_read_number
  have b_read_number := F_read_number.binds1 (p0 := "word") fun _ _ _ _ _ _ _ => rfl
  have F_drawn := fun_mk (st := s_drawn) l_drawn c_drawn k_drawn
  have b_drawn := F_drawn.binds3 (p0 := "script") (p1 := "k") (p2 := "many") fun _ _ _ _ _ _ _ _ _ => rfl
  have F_other := fun_mk (st := s_other) l_other c_other k_other
  have b_other := F_other.binds2 (p0 := "gone") (p1 := "many") fun _ _ _ _ _ _ _ _ => rfl
  have F_rows_by := fun_mk (st := s_rows_by) l_rows_by c_rows_by k_rows_by
  have b_rows_by := F_rows_by.binds1 (p0 := "script") fun _ _ _ _ _ _ _ => rfl
  have F_turns_by := fun_mk (st := s_turns_by) l_turns_by c_turns_by k_turns_by
  have b_turns_by := F_turns_by.binds2 (p0 := "script") (p1 := "rows") fun _ _ _ _ _ _ _ _ => rfl
  have F_loads_by := fun_mk (st := s_loads_by) l_loads_by c_loads_by k_loads_by
  have b_loads_by := F_loads_by.binds2 (p0 := "script") (p1 := "rows") fun _ _ _ _ _ _ _ _ => rfl
  have F_board := fun_mk (st := s_board) l_board c_board k_board
  have b_board := F_board.binds3 (p0 := "rows") (p1 := "turns") (p2 := "loads") fun _ _ _ _ _ _ _ _ _ => rfl
  have F_number := fun_mk (st := s_number) l_number c_number k_number
  have b_number := F_number.binds1 (p0 := "word") fun _ _ _ _ _ _ _ => rfl
  have F_exit := fun_mk (st := s_exit) l_exit c_exit k_exit
  have b_exit := F_exit.binds1 (p0 := "word") fun _ _ _ _ _ _ _ => rfl
  have F_writes := fun_mk (st := s_writes) l_writes c_writes k_writes
  have b_writes := F_writes.binds1 (p0 := "signs") fun _ _ _ _ _ _ _ => rfl
  have F_odd := fun_mk (st := s_odd) l_odd c_odd k_odd
  have b_odd := F_odd.binds1 (p0 := "script") fun _ _ _ _ _ _ _ => rfl
  have F_changed := fun_mk (st := s_changed) l_changed c_changed k_changed
  have b_changed := F_changed.binds2 (p0 := "script") (p1 := "shown") fun _ _ _ _ _ _ _ _ => rfl
  have F_law := fun_mk (st := s_law) l_law c_law k_law
  have b_law := F_law.binds1 (p0 := "script") fun _ _ _ _ _ _ _ => rfl
  have T : Txt K mg { C := C, f_check_rows := f_check_rows, fd_check_rows := PySem.W.fnOf "check_rows" "check_rows" (defArgs s_check_rows) (defBody s_check_rows) (defScope s_check_rows) .none kV_check_rows dc_check_rows pm_check_rows an_check_rows cd_check_rows ct_check_rows, f_check_row := f_check_row, fd_check_row := PySem.W.fnOf "check_row" "check_row" (defArgs s_check_row) (defBody s_check_row) (defScope s_check_row) .none kV_check_row dc_check_row pm_check_row an_check_row cd_check_row ct_check_row, f_check_site := f_check_site, fd_check_site := PySem.W.fnOf "check_site" "check_site" (defArgs s_check_site) (defBody s_check_site) (defScope s_check_site) .none kV_check_site dc_check_site pm_check_site an_check_site cd_check_site ct_check_site, f_Binit := f_Binit, fd_Binit := PySem.W.fnOf "__init__" "Board.__init__" (defArgs s_Binit) (defBody s_Binit) (defScope s_Binit) .none kV_Binit dc_Binit pm_Binit an_Binit cd_Binit ct_Binit, f_Bturn_to := f_Bturn_to, fd_Bturn_to := PySem.W.fnOf "turn_to" "Board.turn_to" (defArgs s_Bturn_to) (defBody s_Bturn_to) (defScope s_Bturn_to) .none kV_Bturn_to dc_Bturn_to pm_Bturn_to an_Bturn_to cd_Bturn_to ct_Bturn_to, f_Bload := f_Bload, fd_Bload := PySem.W.fnOf "load" "Board.load" (defArgs s_Bload) (defBody s_Bload) (defScope s_Bload) .none kV_Bload dc_Bload pm_Bload an_Bload cd_Bload ct_Bload, f_written := f_written, fd_written := PySem.W.fnOf "written" "written" (defArgs s_written) (defBody s_written) (defScope s_written) .none kV_written dc_written pm_written an_written cd_written ct_written, f_site_line := f_site_line, fd_site_line := PySem.W.fnOf "site_line" "site_line" (defArgs s_site_line) (defBody s_site_line) (defScope s_site_line) .none kV_site_line dc_site_line pm_site_line an_site_line cd_site_line ct_site_line, f_way_word := f_way_word, fd_way_word := PySem.W.fnOf "way_word" "way_word" (defArgs s_way_word) (defBody s_way_word) (defScope s_way_word) .none kV_way_word dc_way_word pm_way_word an_way_word cd_way_word ct_way_word, f_read := f_read, fd_read := PySem.W.fnOf "read" "read" (defArgs s_read) (defBody s_read) (defScope s_read) .none kV_read dc_read pm_read an_read cd_read ct_read, f_told := f_told, fd_told := PySem.W.fnOf "told" "told" (defArgs s_told) (defBody s_told) (defScope s_told) .none kV_told dc_told pm_told an_told cd_told ct_told, f_read_head := f_read_head, fd_read_head := PySem.W.fnOf "read_head" "read_head" (defArgs s_read_head) (defBody s_read_head) (defScope s_read_head) .none kV_read_head dc_read_head pm_read_head an_read_head cd_read_head ct_read_head, f_read_numbers := f_read_numbers, fd_read_numbers := PySem.W.fnOf "read_numbers" "read_numbers" (defArgs s_read_numbers) (defBody s_read_numbers) (defScope s_read_numbers) .none kV_read_numbers dc_read_numbers pm_read_numbers an_read_numbers cd_read_numbers ct_read_numbers, f_read_row := f_read_row, fd_read_row := PySem.W.fnOf "read_row" "read_row" (defArgs s_read_row) (defBody s_read_row) (defScope s_read_row) .none kV_read_row dc_read_row pm_read_row an_read_row cd_read_row ct_read_row, f_read_way := f_read_way, fd_read_way := PySem.W.fnOf "read_way" "read_way" (defArgs s_read_way) (defBody s_read_way) (defScope s_read_way) .none kV_read_way dc_read_way pm_read_way an_read_way cd_read_way ct_read_way, f_read_number := f_read_number, fd_read_number := PySem.W.fnOf "read_number" "read_number" (defArgs s_read_number) (defBody s_read_number) (defScope s_read_number) .none kV_read_number dc_read_number pm_read_number an_read_number cd_read_number ct_read_number, f_drawn := f_drawn, fd_drawn := PySem.W.fnOf "_law_drawn" "_law_drawn" (defArgs s_drawn) (defBody s_drawn) (defScope s_drawn) .none kV_drawn dc_drawn pm_drawn an_drawn cd_drawn ct_drawn, f_other := f_other, fd_other := PySem.W.fnOf "_law_other" "_law_other" (defArgs s_other) (defBody s_other) (defScope s_other) .none kV_other dc_other pm_other an_other cd_other ct_other, f_rows_by := f_rows_by, fd_rows_by := PySem.W.fnOf "_law_rows_by" "_law_rows_by" (defArgs s_rows_by) (defBody s_rows_by) (defScope s_rows_by) .none kV_rows_by dc_rows_by pm_rows_by an_rows_by cd_rows_by ct_rows_by, f_turns_by := f_turns_by, fd_turns_by := PySem.W.fnOf "_law_turns_by" "_law_turns_by" (defArgs s_turns_by) (defBody s_turns_by) (defScope s_turns_by) .none kV_turns_by dc_turns_by pm_turns_by an_turns_by cd_turns_by ct_turns_by, f_loads_by := f_loads_by, fd_loads_by := PySem.W.fnOf "_law_loads_by" "_law_loads_by" (defArgs s_loads_by) (defBody s_loads_by) (defScope s_loads_by) .none kV_loads_by dc_loads_by pm_loads_by an_loads_by cd_loads_by ct_loads_by, f_board := f_board, fd_board := PySem.W.fnOf "_law_board" "_law_board" (defArgs s_board) (defBody s_board) (defScope s_board) .none kV_board dc_board pm_board an_board cd_board ct_board, f_number := f_number, fd_number := PySem.W.fnOf "_law_number" "_law_number" (defArgs s_number) (defBody s_number) (defScope s_number) .none kV_number dc_number pm_number an_number cd_number ct_number, f_exit := f_exit, fd_exit := PySem.W.fnOf "_law_exit" "_law_exit" (defArgs s_exit) (defBody s_exit) (defScope s_exit) .none kV_exit dc_exit pm_exit an_exit cd_exit ct_exit, f_writes := f_writes, fd_writes := PySem.W.fnOf "_law_writes" "_law_writes" (defArgs s_writes) (defBody s_writes) (defScope s_writes) .none kV_writes dc_writes pm_writes an_writes cd_writes ct_writes, f_odd := f_odd, fd_odd := PySem.W.fnOf "_law_odd" "_law_odd" (defArgs s_odd) (defBody s_odd) (defScope s_odd) .none kV_odd dc_odd pm_odd an_odd cd_odd ct_odd, f_changed := f_changed, fd_changed := PySem.W.fnOf "_law_changed" "_law_changed" (defArgs s_changed) (defBody s_changed) (defScope s_changed) .none kV_changed dc_changed pm_changed an_changed cd_changed ct_changed, f_law := fa, fd_law := PySem.W.fnOf "law" "law" (defArgs s_law) (defBody s_law) (defScope s_law) .none kV_law dc_law pm_law an_law cd_law ct_law, t_PIT := t_PIT, t_MOST_SITES := t_MOST_SITES, t_MOST_EXITS := t_MOST_EXITS, t_MOST_MARBLES := t_MOST_MARBLES, t_HEAD := t_HEAD, t_MARK := t_MARK, t_PIT_WORD := t_PIT_WORD, t_FIGURES := t_FIGURES, t_MOST_FIGURES := t_MOST_FIGURES, c_NoSite := c_NoSite, c_NoExit := c_NoExit, c_NoPlace := c_NoPlace, c_TooMany := c_TooMany, c_NoBoard := c_NoBoard, c_BoardError := c_BoardError } := { F_check_rows := F_check_rows, m_check_rows := PySem.W.mg_of X G a_check_rows, k_check_rows := k_check_rows, b_check_rows := b_check_rows, F_check_row := F_check_row, m_check_row := PySem.W.mg_of X G a_check_row, k_check_row := k_check_row, b_check_row := b_check_row, F_check_site := F_check_site, m_check_site := PySem.W.mg_of X G a_check_site, k_check_site := k_check_site, b_check_site := b_check_site, F_Binit := F_Binit, mk_Board := ⟨mk, a_Binit, i_Binit, kc⟩, bi_Board := b_Binit, F_Bturn_to := F_Bturn_to, mt_turn_to := ⟨a_Bturn_to, i_Bturn_to, k_Bturn_to⟩, bm_turn_to := b_Bturn_to, F_Bload := F_Bload, mt_load := ⟨a_Bload, i_Bload, k_Bload⟩, bm_load := b_Bload, F_written := F_written, m_written := PySem.W.mg_of X G a_written, k_written := k_written, b_written := b_written, F_site_line := F_site_line, m_site_line := PySem.W.mg_of X G a_site_line, k_site_line := k_site_line, b_site_line := b_site_line, F_way_word := F_way_word, m_way_word := PySem.W.mg_of X G a_way_word, k_way_word := k_way_word, b_way_word := b_way_word, F_read := F_read, m_read := PySem.W.mg_of X G a_read, k_read := k_read, b_read := b_read, F_told := F_told, m_told := PySem.W.mg_of X G a_told, k_told := k_told, b_told := b_told, F_read_head := F_read_head, m_read_head := PySem.W.mg_of X G a_read_head, k_read_head := k_read_head, b_read_head := b_read_head, F_read_numbers := F_read_numbers, m_read_numbers := PySem.W.mg_of X G a_read_numbers, k_read_numbers := k_read_numbers, b_read_numbers := b_read_numbers, F_read_row := F_read_row, m_read_row := PySem.W.mg_of X G a_read_row, k_read_row := k_read_row, b_read_row := b_read_row, F_read_way := F_read_way, m_read_way := PySem.W.mg_of X G a_read_way, k_read_way := k_read_way, b_read_way := b_read_way, F_read_number := F_read_number, m_read_number := PySem.W.mg_of X G a_read_number, k_read_number := k_read_number, b_read_number := b_read_number, F_drawn := F_drawn, m__law_drawn := PySem.W.mg_of X G a_drawn, k__law_drawn := k_drawn, b__law_drawn := b_drawn, F_other := F_other, m__law_other := PySem.W.mg_of X G a_other, k__law_other := k_other, b__law_other := b_other, F_rows_by := F_rows_by, m__law_rows_by := PySem.W.mg_of X G a_rows_by, k__law_rows_by := k_rows_by, b__law_rows_by := b_rows_by, F_turns_by := F_turns_by, m__law_turns_by := PySem.W.mg_of X G a_turns_by, k__law_turns_by := k_turns_by, b__law_turns_by := b_turns_by, F_loads_by := F_loads_by, m__law_loads_by := PySem.W.mg_of X G a_loads_by, k__law_loads_by := k_loads_by, b__law_loads_by := b_loads_by, F_board := F_board, m__law_board := PySem.W.mg_of X G a_board, k__law_board := k_board, b__law_board := b_board, F_number := F_number, m__law_number := PySem.W.mg_of X G a_number, k__law_number := k_number, b__law_number := b_number, F_exit := F_exit, m__law_exit := PySem.W.mg_of X G a_exit, k__law_exit := k_exit, b__law_exit := b_exit, F_writes := F_writes, m__law_writes := PySem.W.mg_of X G a_writes, k__law_writes := k_writes, b__law_writes := b_writes, F_odd := F_odd, m__law_odd := PySem.W.mg_of X G a_odd, k__law_odd := k_odd, b__law_odd := b_odd, F_changed := F_changed, m__law_changed := PySem.W.mg_of X G a_changed, k__law_changed := k_changed, b__law_changed := b_changed, F_law := F_law, m_law := PySem.W.mg_of X G a_law, k_law := k_law, b_law := b_law, m_Board := PySem.W.mg_of X G aC, cl_Board := ⟨pg, hd, po, sa⟩, na_rows := na_rows, na_turns := na_turns, na_loads := na_loads, na_steps := na_steps, na_taken := na_taken, ib1 := ib1, ib2 := ib2, ib3 := ib3, ib4 := ib4, n_len := PySem.W.mg_none_of X G z_len, n_range := PySem.W.mg_none_of X G z_range, n_isinstance := PySem.W.mg_none_of X G z_isinstance, n_int := PySem.W.mg_none_of X G z_int, n_list := PySem.W.mg_none_of X G z_list, n_reversed := PySem.W.mg_none_of X G z_reversed, n_sum := PySem.W.mg_none_of X G z_sum, n_all := PySem.W.mg_none_of X G z_all, n_enumerate := PySem.W.mg_none_of X G z_enumerate, n_max := PySem.W.mg_none_of X G z_max, n_min := PySem.W.mg_none_of X G z_min, n_str := PySem.W.mg_none_of X G z_str, n_ValueError := PySem.W.mg_none_of X G z_ValueError, g_PIT := PySem.W.mg_of X G g_PIT, g_MOST_SITES := PySem.W.mg_of X G g_MOST_SITES, g_MOST_EXITS := PySem.W.mg_of X G g_MOST_EXITS, g_MOST_MARBLES := PySem.W.mg_of X G g_MOST_MARBLES, g_HEAD := PySem.W.mg_of X G g_HEAD, g_MARK := PySem.W.mg_of X G g_MARK, g_PIT_WORD := PySem.W.mg_of X G g_PIT_WORD, g_FIGURES := PySem.W.mg_of X G g_FIGURES, g_MOST_FIGURES := PySem.W.mg_of X G g_MOST_FIGURES, m_NoSite := PySem.W.mg_of X G ax_NoSite, x_NoSite := ⟨ex_NoSite⟩, m_NoExit := PySem.W.mg_of X G ax_NoExit, x_NoExit := ⟨ex_NoExit⟩, m_NoPlace := PySem.W.mg_of X G ax_NoPlace, x_NoPlace := ⟨ex_NoPlace⟩, m_TooMany := PySem.W.mg_of X G ax_TooMany, x_TooMany := ⟨ex_TooMany⟩, m_NoBoard := PySem.W.mg_of X G ax_NoBoard, x_NoBoard := ⟨ex_NoBoard⟩, m_BoardError := PySem.W.mg_of X G ax_BoardError, x_BoardError := ⟨ex_BoardError⟩, xi_NoBoard := ⟨y1_NoBoard, y7_NoBoard, kb_NoBoard, y2_NoBoard, y3_NoBoard, y4, y5, y6_NoBoard⟩, kb_NoSite := kb_NoSite, kb_NoExit := kb_NoExit, kb_NoPlace := kb_NoPlace, kb_TooMany := kb_TooMany, kb_NoBoard := kb_NoBoard, kb_BoardError := kb_BoardError, p_NoSite_BoardError := p_NoSite_BoardError, p_NoExit_BoardError := p_NoExit_BoardError, p_NoPlace_BoardError := p_NoPlace_BoardError, p_TooMany_BoardError := p_TooMany_BoardError, p_NoBoard_BoardError := p_NoBoard_BoardError, p_NoBoard_NoSite := p_NoBoard_NoSite, p_NoBoard_NoExit := p_NoBoard_NoExit, p_NoBoard_NoPlace := p_NoBoard_NoPlace, p_NoBoard_TooMany := p_NoBoard_TooMany, qt_NoBoard_ValueError := qt_NoBoard_ValueError, q_int_bool := q_int_bool, ne_NoSite_BoardError := ne_NoSite_BoardError, ne_NoExit_BoardError := ne_NoExit_BoardError, ne_NoPlace_BoardError := ne_NoPlace_BoardError, ne_TooMany_BoardError := ne_TooMany_BoardError, ne_NoBoard_BoardError := ne_NoBoard_BoardError, ne_NoBoard_NoSite := ne_NoBoard_NoSite, ne_NoBoard_NoExit := ne_NoBoard_NoExit, ne_NoBoard_NoPlace := ne_NoBoard_NoPlace, ne_NoBoard_TooMany := ne_NoBoard_TooMany }
  exact ⟨PySem.W.fnOf "law" "law" (defArgs s_law) (defBody s_law) (defScope s_law) .none kV_law dc_law pm_law an_law cd_law ct_law, fun s v => .of_eq rfl, fun base _ _ => ok_law T (ok_drawn T) (ok_rows_by T (ok_drawn T) (ok_other T)) (ok_turns_by T (ok_drawn T)) (ok_loads_by T (ok_drawn T)) (ok_board T (tame_of (ok_Binit T (ok_check_rows T (ok_check_row T))) init_tame) (ok_Bturn_to T (ok_check_site T)) (ok_Bload T (ok_check_site T))) (ok_written T (ok_site_line T (ok_way_word T))) (ok_changed T (ok_drawn T)) (ok_odd T (ok_drawn T)) (ok_read T (ok_read_head T (ok_read_number T)) (ok_read_numbers T (ok_read_number T)) (ok_read_row T (ok_read_way T (ok_read_number T))) (ok_told T (ok_Binit T (ok_check_rows T (ok_check_row T))) (ok_Bturn_to T (ok_check_site T)) (ok_Bload T (ok_check_site T)))) (ok_writes T (ok_number T) (ok_exit T (ok_number T))) (okh_writes T (okh_number T) (okh_exit T (okh_number T)))⟩
theorem walk {l : PySem.W.OpenLaw} {q : Program} {loose : List Str} {XP : (Str → Option Value) → Heap → Prop} {YP : World → Heap → Prop} {d : DefRec} {K : Params → PySem.W.Frag} (hn : l.most = some 63) (hdf : d.params.defaults = [])
    (hY : ∀ (w : World) (h : Heap), YP w h → (K w.params).In h)
    (F : ∀ (w : World) (mg : Str → Option Value) (fa : Addr) (h : Heap), (K w.params).In h → h.Ns mainGlobals mg → mg d.name = some (.ref fa) →
      ∃ fd : FuncData, (∀ (s : Shared) (u : Value), BindsTo s fd ⟨[u], []⟩ [("script", u)]) ∧ ∀ base : Heap, (K w.params).In base → base.Ns mainGlobals mg → FnOk l.prog w (K w.params) mg base CX0 10 fa fd ["script"] (spLaw (K w.params))) :
    PySem.W.WalkO q loose XP YP l.row.toRowW d [] (fun f vs => PySem.call f vs) :=
  L2.walk_of (n := 63) (k := 10) (x := "script") (CX := fun _ => CX0) (sp := fun w => spLaw (K w.params)) hn (by decide) hdf ⟨rfl, by decide, by decide⟩ hY F (fun _ _ a ns hl _ hS => ⟨a, ns, rfl, hS, hl, fun _ => rfl⟩) fun _ _ _ _ _ z => z
end Law
theorem PySem.W.Fast.tw1367055643976422233 : True := trivial
theorem PySem.W.Fast.tw7326214156481178504 : True := trivial
theorem PySem.W.Fast.tw14849295576398860403 : True := trivial
theorem PySem.W.Fast.tw16626140845762622350 : True := trivial
theorem PySem.W.Fast.tw18044270684638839281 : True := trivial
theorem PySem.W.Fast.tw2334863672571474595 : True := trivial
theorem PySem.W.Fast.tw275902540191597729 : True := trivial
theorem PySem.W.Fast.tw7755912921052582985 : True := trivial
theorem PySem.W.Fast.tw10004810701613462497 : True := trivial
theorem PySem.W.Fast.tw5554093224984479603 : True := trivial
theorem PySem.W.Fast.tw3271136275449561445 : True := trivial
theorem PySem.W.Fast.tw3744958722360737940 : True := trivial
theorem PySem.W.Fast.tw4415912269098080688 : True := trivial
open PySem PySem.W PyProof.Rows
set_option maxRecDepth 100000 in
set_option maxHeartbeats 0 in
theorem PySem.Challenge.cw_marblerun_k25_texts_refused_holds : PySem.Challenge.rw_marblerun_k25_texts_refused.Holds := by
  w_on; o_law; k_head; (case hw => w_witness2)
  k_fill
  refine Law.walk (l := PySem.Challenge.rw_marblerun_k25_texts_refused) rfl rfl (fun w h Y => PySem.W.kIn_of Y) ?F
  case F =>
    intro w mg fa h KX G hmg
    refine' Law.all_mk KX G hmg ?aC ?a_check_rows ?l_check_rows ?c_check_rows ?k_check_rows ?a_check_row ?l_check_row ?c_check_row ?k_check_row ?a_check_site ?l_check_site ?c_check_site ?k_check_site ?a_Binit ?i_Binit ?l_Binit ?c_Binit ?k_Binit ?a_Bturn_to ?i_Bturn_to ?l_Bturn_to ?c_Bturn_to ?k_Bturn_to ?a_Bload ?i_Bload ?l_Bload ?c_Bload ?k_Bload ?a_written ?l_written ?c_written ?k_written ?a_site_line ?l_site_line ?c_site_line ?k_site_line ?a_way_word ?l_way_word ?c_way_word ?k_way_word ?a_read ?l_read ?c_read ?k_read ?a_told ?l_told ?c_told ?k_told ?a_read_head ?l_read_head ?c_read_head ?k_read_head ?a_read_numbers ?l_read_numbers ?c_read_numbers ?k_read_numbers ?a_read_row ?l_read_row ?c_read_row ?k_read_row ?a_read_way ?l_read_way ?c_read_way ?k_read_way ?a_read_number ?l_read_number ?c_read_number ?k_read_number ?a_drawn ?l_drawn ?c_drawn ?k_drawn ?a_other ?l_other ?c_other ?k_other ?a_rows_by ?l_rows_by ?c_rows_by ?k_rows_by ?a_turns_by ?l_turns_by ?c_turns_by ?k_turns_by ?a_loads_by ?l_loads_by ?c_loads_by ?k_loads_by ?a_board ?l_board ?c_board ?k_board ?a_number ?l_number ?c_number ?k_number ?a_exit ?l_exit ?c_exit ?k_exit ?a_writes ?l_writes ?c_writes ?k_writes ?a_odd ?l_odd ?c_odd ?k_odd ?a_changed ?l_changed ?c_changed ?k_changed ?a_law ?l_law ?c_law ?k_law ?pg ?hd ?po ?sa ?mk ?kc ?na_rows ?na_turns ?na_loads ?na_steps ?na_taken ?z_len ?z_range ?z_isinstance ?z_int ?z_list ?z_reversed ?z_sum ?z_all ?z_enumerate ?z_max ?z_min ?z_str ?z_ValueError ?g_PIT ?g_MOST_SITES ?g_MOST_EXITS ?g_MOST_MARBLES ?g_HEAD ?g_MARK ?g_PIT_WORD ?g_FIGURES ?g_MOST_FIGURES ?ax_NoSite ?ex_NoSite ?kb_NoSite ?ax_NoExit ?ex_NoExit ?kb_NoExit ?ax_NoPlace ?ex_NoPlace ?kb_NoPlace ?ax_TooMany ?ex_TooMany ?kb_TooMany ?ax_NoBoard ?ex_NoBoard ?kb_NoBoard ?ax_BoardError ?ex_BoardError ?kb_BoardError ?p_NoSite_BoardError ?ne_NoSite_BoardError ?p_NoExit_BoardError ?ne_NoExit_BoardError ?p_NoPlace_BoardError ?ne_NoPlace_BoardError ?p_TooMany_BoardError ?ne_TooMany_BoardError ?p_NoBoard_BoardError ?ne_NoBoard_BoardError ?p_NoBoard_NoSite ?ne_NoBoard_NoSite ?p_NoBoard_NoExit ?ne_NoBoard_NoExit ?p_NoBoard_NoPlace ?ne_NoBoard_NoPlace ?p_NoBoard_TooMany ?ne_NoBoard_TooMany ?y1_NoBoard ?y7_NoBoard ?y2_NoBoard ?y3_NoBoard ?y6_NoBoard ?y4 ?y5 ?ib1 ?ib2 ?ib3 ?ib4 ?qt_NoBoard_ValueError ?q_int_bool
    (case aC => k_is)
    (case a_check_rows => k_is)
    (case l_check_rows => k_is)
    (case c_check_rows => k_is)
    (case k_check_rows => k_is)
    (case a_check_row => k_is)
    (case l_check_row => k_is)
    (case c_check_row => k_is)
    (case k_check_row => k_is)
    (case a_check_site => k_is)
    (case l_check_site => k_is)
    (case c_check_site => k_is)
    (case k_check_site => k_is)
    (case a_Binit => k_is)
    (case i_Binit => k_is)
    (case l_Binit => k_is)
    (case c_Binit => k_is)
    (case k_Binit => k_is)
    (case a_Bturn_to => k_is)
    (case i_Bturn_to => k_is)
    (case l_Bturn_to => k_is)
    (case c_Bturn_to => k_is)
    (case k_Bturn_to => k_is)
    (case a_Bload => k_is)
    (case i_Bload => k_is)
    (case l_Bload => k_is)
    (case c_Bload => k_is)
    (case k_Bload => k_is)
    (case a_written => k_is)
    (case l_written => k_is)
    (case c_written => k_is)
    (case k_written => k_is)
    (case a_site_line => k_is)
    (case l_site_line => k_is)
    (case c_site_line => k_is)
    (case k_site_line => k_is)
    (case a_way_word => k_is)
    (case l_way_word => k_is)
    (case c_way_word => k_is)
    (case k_way_word => k_is)
    (case a_read => k_is)
    (case l_read => k_is)
    (case c_read => k_is)
    (case k_read => k_is)
    (case a_told => k_is)
    (case l_told => k_is)
    (case c_told => k_is)
    (case k_told => k_is)
    (case a_read_head => k_is)
    (case l_read_head => k_is)
    (case c_read_head => k_is)
    (case k_read_head => k_is)
    (case a_read_numbers => k_is)
    (case l_read_numbers => k_is)
    (case c_read_numbers => k_is)
    (case k_read_numbers => k_is)
    (case a_read_row => k_is)
    (case l_read_row => k_is)
    (case c_read_row => k_is)
    (case k_read_row => k_is)
    (case a_read_way => k_is)
    (case l_read_way => k_is)
    (case c_read_way => k_is)
    (case k_read_way => k_is)
    (case a_read_number => k_is)
    (case l_read_number => k_is)
    (case c_read_number => k_is)
    (case k_read_number => k_is)
    (case a_drawn => k_is)
    (case l_drawn => k_is)
    (case c_drawn => k_is)
    (case k_drawn => k_is)
    (case a_other => k_is)
    (case l_other => k_is)
    (case c_other => k_is)
    (case k_other => k_is)
    (case a_rows_by => k_is)
    (case l_rows_by => k_is)
    (case c_rows_by => k_is)
    (case k_rows_by => k_is)
    (case a_turns_by => k_is)
    (case l_turns_by => k_is)
    (case c_turns_by => k_is)
    (case k_turns_by => k_is)
    (case a_loads_by => k_is)
    (case l_loads_by => k_is)
    (case c_loads_by => k_is)
    (case k_loads_by => k_is)
    (case a_board => k_is)
    (case l_board => k_is)
    (case c_board => k_is)
    (case k_board => k_is)
    (case a_number => k_is)
    (case l_number => k_is)
    (case c_number => k_is)
    (case k_number => k_is)
    (case a_exit => k_is)
    (case l_exit => k_is)
    (case c_exit => k_is)
    (case k_exit => k_is)
    (case a_writes => k_is)
    (case l_writes => k_is)
    (case c_writes => k_is)
    (case k_writes => k_is)
    (case a_odd => k_is)
    (case l_odd => k_is)
    (case c_odd => k_is)
    (case k_odd => k_is)
    (case a_changed => k_is)
    (case l_changed => k_is)
    (case c_changed => k_is)
    (case k_changed => k_is)
    (case a_law => k_is)
    (case l_law => k_is)
    (case c_law => k_is)
    (case k_law => k_is)
    (case pg => k_is)
    (case hd => k_is)
    (case po => k_is)
    (case sa => k_is)
    (case mk => k_is)
    (case kc => k_is)
    (case na_rows => k_is)
    (case na_turns => k_is)
    (case na_loads => k_is)
    (case na_steps => k_is)
    (case na_taken => k_is)
    (case z_len => k_is)
    (case z_range => k_is)
    (case z_isinstance => k_is)
    (case z_int => k_is)
    (case z_list => k_is)
    (case z_reversed => k_is)
    (case z_sum => k_is)
    (case z_all => k_is)
    (case z_enumerate => k_is)
    (case z_max => k_is)
    (case z_min => k_is)
    (case z_str => k_is)
    (case z_ValueError => k_is)
    (case g_PIT => k_is)
    (case g_MOST_SITES => k_is)
    (case g_MOST_EXITS => k_is)
    (case g_MOST_MARBLES => k_is)
    (case g_HEAD => k_is)
    (case g_MARK => k_is)
    (case g_PIT_WORD => k_is)
    (case g_FIGURES => k_is)
    (case g_MOST_FIGURES => k_is)
    (case ax_NoSite => k_is)
    (case ax_NoExit => k_is)
    (case ax_NoPlace => k_is)
    (case ax_TooMany => k_is)
    (case ax_NoBoard => k_is)
    (case ax_BoardError => k_is)
    (case y1_NoBoard => k_is)
    (case y7_NoBoard => k_is)
    (case y2_NoBoard => k_is)
    (case y3_NoBoard => k_is)
    (case y6_NoBoard => k_is)
    (case y4 => k_is)
    (case y5 => k_is)
    (case ib1 => k_is)
    (case ib2 => k_is)
    (case ib3 => k_is)
    (case ib4 => k_is)
    (case ex_NoSite => k_exc)
    (case ex_NoExit => k_exc)
    (case ex_NoPlace => k_exc)
    (case ex_TooMany => k_exc)
    (case ex_NoBoard => k_exc)
    (case ex_BoardError => k_exc)
    (case kb_NoSite => kit_is)
    (case kb_NoExit => kit_is)
    (case kb_NoPlace => kit_is)
    (case kb_TooMany => kit_is)
    (case kb_NoBoard => kit_is)
    (case kb_BoardError => kit_is)
    (case p_NoSite_BoardError => kit_is)
    (case p_NoExit_BoardError => kit_is)
    (case p_NoPlace_BoardError => kit_is)
    (case p_TooMany_BoardError => kit_is)
    (case p_NoBoard_BoardError => kit_is)
    (case p_NoBoard_NoSite => kit_is)
    (case p_NoBoard_NoExit => kit_is)
    (case p_NoBoard_NoPlace => kit_is)
    (case p_NoBoard_TooMany => kit_is)
    (case qt_NoBoard_ValueError => kit_is)
    (case q_int_bool => kit_is)
    (case ne_NoSite_BoardError => decide)
    (case ne_NoExit_BoardError => decide)
    (case ne_NoPlace_BoardError => decide)
    (case ne_TooMany_BoardError => decide)
    (case ne_NoBoard_BoardError => decide)
    (case ne_NoBoard_NoSite => decide)
    (case ne_NoBoard_NoExit => decide)
    (case ne_NoBoard_NoPlace => decide)
    (case ne_NoBoard_TooMany => decide)
#print axioms PySem.Challenge.cw_marblerun_k25_texts_refused_holds
