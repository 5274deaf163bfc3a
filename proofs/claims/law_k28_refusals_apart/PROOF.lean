import PyProof.Rows.All
import Wide.All
import OpenK.AllK
import Wide.FinOn
import Lean
import PyProof.EqAt
import PyProof.EqKinds
import PyProof.TupleCall
import PySem.Challenge.RW_marblerun_k28_refusals_apart
local macro_rules | `(tactic| omega) => `(tactic| lia)
set_option Elab.async false
set_option linter.all false
set_option maxRecDepth 100000
namespace L2
open PySem PySem.Spec PyProof.Rows
abbrev Key := Sum Int Str
def keyIs : Key → Value → Bool
  | .inl k, v => Value.isInt k v
  | .inr x, v => Value.isStrOf x v
def keyH (w : World) : Key → Int
  | .inl k => hashInt k
  | .inr x => hashStr w x
theorem keyIs_shape : ∀ {k : Key} {v : Value}, keyIs k v = true → (∃ i t, k = Sum.inl i ∧ v = Value.int i t) ∨ (∃ x t, k = Sum.inr x ∧ v = Value.str x t)
  | .inl i, v, h => by
    obtain ⟨t, e⟩ := Value.isInt_shape (k := i) (v := v) h
    exact .inl ⟨i, t, rfl, e⟩
  | .inr x, v, h => by
    obtain ⟨t, e⟩ := Value.isStrOf_shape (x := x) (v := v) h
    exact .inr ⟨x, t, rfl, e⟩
theorem keyIs_int (i : Int) (t : Tok) : keyIs (.inl i) (.int i t) = true := by simp [keyIs, Value.isInt]
theorem keyIs_str (x : Str) (t : Tok) : keyIs (.inr x) (.str x t) = true := by simp [keyIs, Value.isStrOf]
theorem key_ll (a b : Int) : decide ((Sum.inl a : Key) = Sum.inl b) = (a == b) := by
  by_cases e : a = b
  · subst e; simp
  · have h : ¬ (Sum.inl a : Key) = Sum.inl b := fun q => e (Sum.inl.inj q)
    rw [decide_eq_false h]
    exact (beq_eq_false_iff_ne.mpr e).symm
theorem key_rr (a b : Str) : decide ((Sum.inr a : Key) = Sum.inr b) = decide (a = b) := by
  by_cases e : a = b
  · subst e; simp
  · have h : ¬ (Sum.inr a : Key) = Sum.inr b := fun q => e (Sum.inr.inj q)
    rw [decide_eq_false h, decide_eq_false e]
theorem key_lr (a : Int) (b : Str) : decide ((Sum.inl a : Key) = Sum.inr b) = false := decide_eq_false (fun q => nomatch q)
theorem key_rl (a : Str) (b : Int) : decide ((Sum.inr a : Key) = Sum.inl b) = false := decide_eq_false (fun q => nomatch q)
def mixKind (prog : Program) (w : World) : PySem.KeyKind prog w Key where
  is := keyIs
  hash := keyH w
  inj := fun v a b ha hb => by
    rcases keyIs_shape ha with ⟨i, t, rfl, rfl⟩ | ⟨x, t, rfl, rfl⟩
    · rcases keyIs_shape hb with ⟨j, u, rfl, e⟩ | ⟨y, u, rfl, e⟩
      · injection e with e1 _; rw [e1]
      · exact nomatch e
    · rcases keyIs_shape hb with ⟨j, u, rfl, e⟩ | ⟨y, u, rfl, e⟩
      · exact nomatch e
      · injection e with e1 _; rw [e1]
  byValue := fun k v h => by
    rcases keyIs_shape h with ⟨i, t, rfl, rfl⟩ | ⟨x, t, rfl, rfl⟩ <;> rfl
  pyHash := fun hv h => by
    rcases keyIs_shape hv with ⟨i, t, rfl, rfl⟩ | ⟨x, t, rfl, rfl⟩
    · exact wpAny_pyHash_int h
    · exact wpAny_pyHash_str h
  eqBool := fun hu hv h => by
    rcases keyIs_shape hu with ⟨i, t, rfl, rfl⟩ | ⟨x, t, rfl, rfl⟩
    · rcases keyIs_shape hv with ⟨j, u, rfl, rfl⟩ | ⟨y, u, rfl, rfl⟩
      · rw [key_ll] at h; exact wpAny_eqBool_int h
      · rw [key_lr] at h; exact SeqAt.EqAt.int_str i t y u _ _ _ _ h
    · rcases keyIs_shape hv with ⟨j, u, rfl, rfl⟩ | ⟨y, u, rfl, rfl⟩
      · rw [key_rl] at h; exact SeqAt.EqAt.str_int x t j u _ _ _ _ h
      · rw [key_rr] at h; exact wpAny_eqBool_str h
  «strs» := fun k x t v h => by
    rcases keyIs_shape h with ⟨i, u, rfl, e⟩ | ⟨y, u, rfl, e⟩
    · exact nomatch e
    · injection e with e1 _
      subst e1
      cases v <;> rfl
theorem mixKind_int (prog : Program) (w : World) (i : Int) (t : Tok) : (mixKind prog w).is (.inl i) (.int i t) = true := keyIs_int i t
theorem mixKind_str (prog : Program) (w : World) (x : Str) (t : Tok) : (mixKind prog w).is (.inr x) (.str x t) = true := keyIs_str x t
end L2
namespace L2
open PySem PySem.Spec PyProof.Rows
inductive V where
  | non | bl (b : Bool) | int (i : Int) | str (x : Str) | byt (b : Array UInt8) | flt (b : UInt64) | ref (a : Addr) | ty (n : String)
  deriving DecidableEq
def RelV : V → Value → Prop
  | .non, u => u = Value.none
  | .bl b, u => u = Value.bool b
  | .int i, u => ∃ t, u = Value.int i t
  | .str x, u => ∃ t, u = Value.str x t
  | .byt b, u => ∃ t, u = Value.bytes b t
  | .flt b, u => ∃ t, u = Value.float b t
  | .ref a, u => u = Value.ref a
  | .ty n, u => u = Value.type n
abbrev Vals : List V → List Value → Prop := Paired RelV
theorem Vals.length {xs : List V} {us : List Value} (r : Vals xs us) : xs.length = us.length := Paired.length r
theorem Vals.get : ∀ {xs : List V} {us : List Value} {i : Nat} {x : V}, Vals xs us → xs[i]? = some x → ∃ u, us[i]? = some u ∧ RelV x u
  | _, _, _, _, .nil, e => by simp at e
  | _, _, 0, _, .cons r _, e => by simp at e; subst e; exact ⟨_, rfl, r⟩
  | _, _, i + 1, x, .cons _ t, e => by
    obtain ⟨u, h1, h2⟩ := Vals.get (i := i) (x := x) t (by simpa using e)
    exact ⟨u, by simpa using h1, h2⟩
theorem Vals.set {x : V} {u : Value} (r : RelV x u) : ∀ {xs : List V} {us : List Value} (i : Nat), Vals xs us → Vals (xs.set i x) (us.set i u)
  | _, _, _, .nil => .nil
  | _, _, 0, .cons _ t => .cons r t
  | _, _, i + 1, .cons q t => .cons q (Vals.set r i t)
theorem Vals.append : ∀ {xs ys : List V} {us ws : List Value}, Vals xs us → Vals ys ws → Vals (xs ++ ys) (us ++ ws)
  | _, _, _, _, .nil, s => s
  | _, _, _, _, .cons r t, s => .cons r (Vals.append t s)
theorem Vals.take : ∀ {xs : List V} {us : List Value} (n : Nat), Vals xs us → Vals (xs.take n) (us.take n)
  | _, _, 0, _ => .nil
  | _, _, _ + 1, .nil => .nil
  | _, _, n + 1, .cons r t => .cons r (Vals.take n t)
theorem Vals.drop : ∀ {xs : List V} {us : List Value} (n : Nat), Vals xs us → Vals (xs.drop n) (us.drop n)
  | _, _, 0, r => r
  | _, _, _ + 1, .nil => .nil
  | _, _, n + 1, .cons _ t => Vals.drop n t
def RelO : Option V → Option Value → Prop
  | some v, some u => RelV v u
  | none, none => True
  | _, _ => False
def KV {κ : Type} : List (κ × V) → List (κ × Value) → Prop := Paired fun (p : κ × V) (q : κ × Value) => p.1 = q.1 ∧ RelV p.2 q.2
def kV : Key → V
  | .inl i => .int i
  | .inr x => .str x
inductive HO where
  | lst (xs : List V)
  | tup (xs : List V)
  | dK (kvs : List (Key × V)) | dT (kvs : List (List Key × V))
  | set (S : Int → Bool) (n : Nat)
  | ins (C dx : Addr) (fs : List (Str × V))
  | own (x : Addr)
  | xd (fs : List (Str × V))
  | met (f x : Addr)
  | rng (lo hi : Int)
  | frz (o : Obj) (u : HO)
  | tbl (ps : Array Value)
  | ext (φ : Heap → Prop)
abbrev Hp := Addr → Option HO
def upd (H : Hp) (a : Addr) (o : HO) : Hp := fun b => if b = a then some o else H b
theorem upd_same {H : Hp} {a : Addr} {o : HO} : upd H a o a = some o := by unfold upd; rw [if_pos rfl]
theorem upd_ne {H : Hp} {a b : Addr} {o : HO} (h : b ≠ a) : upd H a o b = H b := by unfold upd; rw [if_neg h]
theorem upd_upd {H : Hp} {a : Addr} {o u : HO} : upd (upd H a o) a u = upd H a u := by
  funext b; unfold upd; split <;> rfl
theorem ne_of {H : Hp} {a b : Addr} {o u : HO} (h : H a = some o) (h' : H b = some u) (d : o ≠ u) : a ≠ b := by
  intro e; subst e; rw [h] at h'; exact d (Option.some.inj h')
theorem ne_of_none {H : Hp} {a b : Addr} {o : HO} (h : H a = some o) (h' : H b = none) : a ≠ b := by
  intro e; subst e; rw [h] at h'; cases h'
section
variable (P : Program) (w : World)
def ObjOk (H : Hp) (h : Heap) (a : Addr) : HO → Prop
  | .lst xs => xs.length ≤ sizeLine ∧ ∃ (its : List Value) (n : Nat), Vals xs its ∧ h.get? a = some { cls := .type "list", data := .seq its.toArray n }
  | .tup xs => xs.length ≤ sizeLine ∧ ∃ its : List Value, Vals xs its ∧ IsTup h a its.toArray
  | .dK kvs => kvs.length ≤ sizeLine ∧ (a == sysModules) = false ∧ ∃ vs, KV kvs vs ∧ h.DictOf (mixKind P w) a vs
  | .dT kvs => kvs.length ≤ sizeLine ∧ (a == sysModules) = false ∧ ∃ xs : List (List Key × Addr × Value),
      Paired (fun (p : List Key × V) (q : List Key × Addr × Value) => p.1 = q.1 ∧ H q.2.1 = some (.tup (p.1.map kV)) ∧ RelV p.2 q.2.2) kvs xs ∧
      ∃ o es ep, h.get? a = some o ∧ o.ExactDict ∧ o.data = .dict es ep ∧ es.toList = xs.map (entryOfKey (tupleKind (mixKind P w))) ∧ (xs.map (·.1)).Nodup
  | .set S n => h.SetOf (intKind P w) a S n
  | .ins C dx fs => H dx = some (.own a) ∧ fs.length ≤ 1000 ∧ dx ≠ a ∧ h.get? a = some (PySem.W.instObj C dx) ∧
      ∃ mA, h.Ns1 dx mA ∧ (∀ f, RelO (fs.lookup f) (mA f)) ∧ PySem.Within mA (fs.map (·.1))
  | .own _ => ∃ o, h.get? a = some o
  | .xd fs => ∃ mA, h.Ns1 a mA ∧ ∀ f, RelO (fs.lookup f) (mA f)
  | .rng lo hi => ∃ t u v, h.get? a = some { cls := .type "range", data := .fields #[.int lo t, .int hi u, .int 1 v] }
  | .frz o u => h.get? a = some o ∧ ObjOk H h a u
  | .tbl ps => h.get? a = some { cls := .none, data := .fields ps }
  | .met f x => h.get? a = some (PySem.W.methodObj (.ref f) (.ref x))
  | .ext φ => φ h ∧ (∃ o, h.get? a = some o) ∧ ∀ h1 h2 : Heap, φ h1 → (∀ o, h1.get? a = some o → h2.get? a = some o) → φ h2
def HOk (H : Hp) (h : Heap) : Prop := ∀ a o, H a = some o → ObjOk P w H h a o
end
section
variable {P : Program} {w : World} {H H' : Hp} {h h' : Heap} {a : Addr} {o : HO}
theorem ObjOk.lt (x : ObjOk P w H h a o) : a < h.objs.size := by
  cases o with
  | lst xs => obtain ⟨_, _, _, _, e⟩ := x; exact Heap.lt_size e
  | tup xs => obtain ⟨_, _, _, p⟩ := x; exact p.lt
  | dK kvs => obtain ⟨_, _, _, _, o, _, _, e, _⟩ := x; exact Heap.lt_size e
  | dT kvs => obtain ⟨_, _, _, _, o, _, _, e, _⟩ := x; exact Heap.lt_size e
  | set S n => obtain ⟨o, _, _, _, e, _⟩ := x; exact Heap.lt_size e
  | ins C dx fs => obtain ⟨_, _, _, e, _⟩ := x; exact Heap.lt_size e
  | own y => obtain ⟨_, e⟩ := x; exact Heap.lt_size e
  | xd fs => obtain ⟨_, ⟨_, _, _, e, _⟩, _⟩ := x; exact Heap.lt_size e
  | rng lo hi => obtain ⟨_, _, _, e⟩ := x; exact Heap.lt_size e
  | frz ob u => obtain ⟨e, _⟩ := x; exact Heap.lt_size e
  | tbl ps => exact Heap.lt_size (show h.get? a = some _ from x)
  | met f y => exact Heap.lt_size (show h.get? a = some _ from x)
  | ext φ => obtain ⟨_, ⟨_, e⟩, _⟩ := x; exact Heap.lt_size e
theorem Paired.mapP {α β : Type} {F G : α → β → Prop} : ∀ {l₁ : List α} {l₂ : List β}, Paired F l₁ l₂ → (∀ a b, F a b → G a b) → Paired G l₁ l₂
  | _, _, .nil, _ => .nil
  | _, _, .cons r t, f => .cons (f _ _ r) (Paired.mapP t f)
theorem ObjOk.stay (x : ObjOk P w H h a o) (k : ∀ b u, (b = a ∨ H b = some (.own a)) → h.get? b = some u → h'.get? b = some u)
    (ho : ∀ b, H b = some (.own a) → H' b = some (.own a)) (ht : ∀ b xs, H b = some (.tup xs) → H' b = some (.tup xs)) : ObjOk P w H' h' a o := by
  induction o with
  | lst xs => obtain ⟨z, its, n, r, e⟩ := x; exact ⟨z, its, n, r, k _ _ (.inl rfl) e⟩
  | tup xs => obtain ⟨z, its, r, ob, e, c⟩ := x; exact ⟨z, its, r, ob, k _ _ (.inl rfl) e, c⟩
  | dK kvs => obtain ⟨z, y, vs, r, ob, es, ep, e, c⟩ := x; exact ⟨z, y, vs, r, ob, es, ep, k _ _ (.inl rfl) e, c⟩
  | dT kvs =>
    obtain ⟨z, y, xs, r, ob, es, ep, e, c⟩ := x
    exact ⟨z, y, xs, Paired.mapP r fun p q z => ⟨z.1, ht _ _ z.2.1, z.2.2⟩, ob, es, ep, k _ _ (.inl rfl) e, c⟩
  | set S n => obtain ⟨ob, es, ep, t, e, c⟩ := x; exact ⟨ob, es, ep, t, k _ _ (.inl rfl) e, c⟩
  | ins C dx fs =>
    obtain ⟨d, z, ne, e, mA, ⟨od, es, ep, e2, c⟩, r⟩ := x
    exact ⟨ho _ d, z, ne, k _ _ (.inl rfl) e, mA, ⟨od, es, ep, k _ _ (.inr d) e2, c⟩, r⟩
  | own y => obtain ⟨ob, e⟩ := x; exact ⟨ob, k _ _ (.inl rfl) e⟩
  | xd fs => obtain ⟨mA, ⟨od, es, ep, e, c⟩, r⟩ := x; exact ⟨mA, ⟨od, es, ep, k _ _ (.inl rfl) e, c⟩, r⟩
  | rng lo hi => obtain ⟨t, u, v, e⟩ := x; exact ⟨t, u, v, k _ _ (.inl rfl) e⟩
  | frz ob u ih => obtain ⟨e, q⟩ := x; exact ⟨k _ _ (.inl rfl) e, ih q⟩
  | tbl ps =>
    have e : h.get? a = some { cls := .none, data := .fields ps } := x
    show h'.get? a = some { cls := .none, data := .fields ps }
    exact k a _ (.inl rfl) e
  | met f y =>
    have e : h.get? a = some (PySem.W.methodObj (.ref f) (.ref y)) := x
    show h'.get? a = some (PySem.W.methodObj (.ref f) (.ref y))
    exact k a _ (.inl rfl) e
  | ext φ => obtain ⟨p, ⟨o, e⟩, st⟩ := x; exact ⟨st _ _ p fun o q => k _ _ (.inl rfl) q, ⟨o, k _ _ (.inl rfl) e⟩, st⟩
theorem HOk.lt (x : HOk P w H h) (e : H a = some o) : a < h.objs.size := (x a o e).lt
theorem HOk.fresh (x : HOk P w H h) (e : h.objs.size ≤ a) : H a = none := by
  cases q : H a with
  | none => rfl
  | some u => exact absurd (Nat.lt_of_lt_of_le (x.lt q) e) (Nat.lt_irrefl _)
theorem HOk.kept (x : HOk P w H h) (k : ∀ b u, h.get? b = some u → h'.get? b = some u) : HOk P w H h' := fun a o e =>
  (x a o e).stay (fun b u _ q => k b u q) (fun _ q => q) fun _ _ q => q
theorem HOk.laid (x : HOk P w H h) (k : ∀ b u, h.get? b = some u → h'.get? b = some u) (hp : h.objs.size ≤ a) (new : ObjOk P w (upd H a o) h' a o) : HOk P w (upd H a o) h' := fun b u e => by
  have hn := x.fresh hp
  by_cases hb : b = a
  · subst hb; rw [upd_same] at e; cases e; exact new
  · rw [upd_ne hb] at e
    exact (x b u e).stay (fun c v _ q => k c v q) (fun c q => by rw [upd_ne (ne_of_none q hn)]; exact q) fun c xs q => by rw [upd_ne (ne_of_none q hn)]; exact q
end
def Rd (H : Hp) (a : Addr) (u : HO) : Prop := H a = some u ∨ ∃ o, H a = some (.frz o u)
theorem Rd.ok {P : Program} {w : World} {H : Hp} {h : Heap} {a : Addr} {u : HO} (r : Rd H a u) (x : HOk P w H h) : ObjOk P w H h a u := by
  rcases r with r | ⟨o, r⟩
  · exact x a u r
  · obtain ⟨_, q⟩ := x a _ r
    exact q
def Mut : Option HO → Prop
  | some (.lst _) => True
  | some (.dK _) => True
  | some (.dT _) => True
  | some (.set _ _) => True
  | some (.ins _ _ _) => True
  | some (.ext _) => True
  | _ => False
section
variable {P : Program} {w : World} {H : Hp} {h h' : Heap} {x e : Addr} {o' : HO}
theorem HOk.write (ok : HOk P w H h) (mu : Mut (H x)) (he : e = x ∨ H e = some (.own x)) (k : ∀ b u, b ≠ e → h.get? b = some u → h'.get? b = some u) (heo : ∃ u, h'.get? e = some u)
    (new : ObjOk P w (upd H x o') h' x o') : HOk P w (upd H x o') h' := fun b u q => by
  have nown : ∀ c y, H c = some (.own y) → c ≠ x := fun c y r z => by subst z; rw [r] at mu; exact mu
  have ntup : ∀ c xs, H c = some (.tup xs) → c ≠ x := fun c xs r z => by subst z; rw [r] at mu; exact mu
  by_cases hb : b = x
  · subst hb; rw [upd_same] at q; cases q; exact new
  · rw [upd_ne hb] at q
    by_cases hbe : b = e
    · have q' : H b = some (.own x) := by
        rcases he with z | z
        · exact absurd (hbe.trans z) hb
        · rw [hbe]; exact z
      rw [q] at q'; cases q'
      obtain ⟨v, hv⟩ := heo
      exact ⟨v, by rw [hbe]; exact hv⟩
    · refine (ok b u q).stay (fun c v hc r => k c v ?_ r) (fun c r => by rw [upd_ne (nown c b r)]; exact r) fun c xs r => by rw [upd_ne (ntup c xs r)]; exact r
      rcases hc with rfl | hc
      · exact hbe
      · rintro rfl
        rcases he with z | z
        · exact nown c b hc z
        · rw [hc] at z; cases z; exact hb rfl
end
structure Un (fs ex : List Addr) (H H' : Hp) (h h' : Heap) : Prop where
  keep : ∀ b o, h.get? b = some o → H b = none → b ∉ fs → b ∉ ex → h'.get? b = some o
  slot : ∀ b o, h.get? b = some o → H b = none → b ∈ fs → b ∉ ex → ∃ sl, h'.get? b = some { o with slots := sl }
  free : ∀ b o, h.get? b = some o → H b = none → b ∉ ex → H' b = none
  there : ∀ b o, h.get? b = some o → b ∉ ex → ∃ o', h'.get? b = some o'
  tups : ∀ b xs, H b = some (.tup xs) → H' b = some (.tup xs)
  frzs : ∀ b o u, H b = some (.frz o u) → H' b = some (.frz o u)
  tbls : ∀ b ps, H b = some (.tbl ps) → ∃ more, H' b = some (.tbl (ps ++ more))
section
variable {fs fs' ex ex' : List Addr} {H H1 H2 : Hp} {h h1 h2 h' : Heap} {a x e : Addr} {o : HO}
theorem Un.any (u : Un fs ex H H1 h h1) {b : Addr} {ob : Obj} (q : h.get? b = some ob) (n : H b = none) (hx : b ∉ ex) : ∃ sl, h1.get? b = some { ob with slots := sl } := by
  by_cases hb : b ∈ fs
  · exact u.slot b ob q n hb hx
  · exact ⟨ob.slots, u.keep b ob q n hb hx⟩
theorem Un.kept (k : ∀ b u, h.get? b = some u → h'.get? b = some u) : Un fs ex H H h h' :=
  ⟨fun b ob q _ _ _ => k b ob q, fun b ob q _ _ _ => ⟨ob.slots, k b ob q⟩, fun _ _ _ n _ => n, fun b ob q _ => ⟨ob, k b ob q⟩, fun _ _ q => q, fun _ _ _ q => q, fun _ ps q => ⟨#[], by rw [q]; simp⟩⟩
theorem Un.refl : Un fs ex H H h h := Un.kept fun _ _ q => q
theorem Un.laid (k : ∀ b u, h.get? b = some u → h'.get? b = some u) (hp : h.objs.size ≤ a) (hn : H a = none) : Un fs ex H (upd H a o) h h' where
  keep := fun b u q _ _ _ => k b u q
  slot := fun b u q _ _ _ => ⟨u.slots, k b u q⟩
  free := fun b u q n _ => by rw [upd_ne (Nat.ne_of_lt (Nat.lt_of_lt_of_le (Heap.lt_size q) hp))]; exact n
  there := fun b u q _ => ⟨u, k b u q⟩
  tups := fun b xs q => by rw [upd_ne (ne_of_none q hn)]; exact q
  frzs := fun b u xs q => by rw [upd_ne (ne_of_none q hn)]; exact q
  tbls := fun b ps q => ⟨#[], by rw [upd_ne (ne_of_none q hn), q]; simp⟩
theorem Un.write (mu : Mut (H x)) (he : e = x ∨ H e = some (.own x)) (k : ∀ b u, b ≠ e → h.get? b = some u → h'.get? b = some u) (heo : ∃ u, h'.get? e = some u) : Un fs ex H (upd H x o) h h' := by
  have hx : ∀ b, H b = none → b ≠ x := fun b n z => by subst z; rw [n] at mu; exact mu
  have hb : ∀ b, H b = none → b ≠ e := fun b n z => by
    subst z
    rcases he with r | r
    · exact hx b n r
    · rw [n] at r; cases r
  have hm : ∀ b u, H b = some u → ¬ Mut (some u) → b ≠ x := fun b u q nm z => by subst z; rw [q] at mu; exact nm mu
  refine ⟨fun b u q n _ _ => k b u (hb b n) q, fun b u q n _ _ => ⟨u.slots, k b u (hb b n) q⟩, fun b u q n _ => by rw [upd_ne (hx b n)]; exact n, fun b u q _ => ?_,
    fun b xs q => by rw [upd_ne (hm b _ q fun z => z)]; exact q, fun b u xs q => by rw [upd_ne (hm b _ q fun z => z)]; exact q, fun b ps q => ⟨#[], by rw [upd_ne (hm b _ q fun z => z), q]; simp⟩⟩
  by_cases hbe : b = e
  · subst hbe; exact heo
  · exact ⟨u, k b u hbe q⟩
end
def trk (h : Heap) (H : Hp) : List Addr := (List.range h.objs.size).filter fun a => (H a).isSome
def hidT (h : Heap) (H : Hp) : Heap := PySem.W.hideAll h (trk h H)
theorem hidT_size (h : Heap) (H : Hp) : (hidT h H).objs.size = h.objs.size := PySem.W.hideAll_size _ _
theorem hidT_get {h : Heap} {H : Hp} {b : Addr} {o : Obj} (e : h.get? b = some o) (n : H b = none) : (hidT h H).get? b = some o :=
  PySem.W.hideAll_get _ e fun hm => by
    have q : (H b).isSome = true := (List.mem_filter.mp hm).2
    rw [n] at q; simp at q
theorem of_hidT {h : Heap} {H : Hp} {b : Addr} {o : Obj} (e : (hidT h H).get? b = some o) : h.get? b = some o ∧ H b = none := by
  have e' : h.get? b = some o := PySem.W.of_hideAll (trk h H) e
  refine ⟨e', ?_⟩
  cases q : H b with
  | none => rfl
  | some x =>
    have hm : b ∈ trk h H := List.mem_filter.mpr ⟨List.mem_range.mpr (Heap.lt_size e'), by simp [q]⟩
    have z : (hidT h H).get? b = none := PySem.W.hideAll_none (trk h H) hm
    rw [z] at e; cases e
end L2
namespace L2
open PySem PySem.Spec PyProof.Rows
structure Mod (K : PySem.W.Frag) (mg : Str → Option Value) (base : Heap) : Prop where
  kin : K.In base
  glob : base.Ns mainGlobals mg
  blt : ∃ mb, base.Ns builtinsNs mb ∧ ∀ x : Str, x ≠ "__name__" → mb x = bootBuiltins x
  nolimit : base.NoLimit
structure Cx where
  prog : Program
  w : World
  K : PySem.W.Frag
  mg : Str → Option Value
  base : Heap
  A : Around
  N : List Str
  s₀ : Shared
  H₀ : Hp
  env : Env
  outer : List Env
  stack : List Env
  ex : List Addr
  fn : Str → Bool
  calm : Bool
  pn : List (Addr × Obj)
  xe : Value → Shared → Prop
def frs (l : List Env) : List Addr := l.filterMap (·.frame)
abbrev Cx.fs (X : Cx) : List Addr := frs X.outer
def Vis (sc : Scope) (x : Str) : Prop := sc.names.lookup x = some .local ∨ sc.names.lookup x = some .cell ∨ sc.names.lookup x = some .free
def Loc (sc : Scope) (x : Str) : Prop := sc.names.lookup x = some .local ∨ sc.names.lookup x = some .cell
def Look (env : Env) (h : Heap) (m : Str → Option Value) (x : Str) (u : Value) : Prop :=
  (env.kindOf x = some .local ∧ m x = some u) ∨ ((env.kindOf x = some .cell ∨ env.kindOf x = some .free) ∧ ∃ c, env.cells.lookup x = some c ∧ h.IsCell c (some u))
structure Cx.Ok (X : Cx) : Prop where
  mod : Mod X.K X.mg X.base
  kind : X.env.scope.kind = .function
  glob : X.env.globals = mainGlobals
  blt : X.env.builtins = builtinsNs
  above : X.s₀.heap.objs.size ≤ X.env.locals
  inj : ∀ x y c, X.env.cells.lookup x = some c → X.env.cells.lookup y = some c → x = y
  has : ∀ x, (X.env.kindOf x = some .cell ∨ X.env.kindOf x = some .free) → ∃ c, X.env.cells.lookup x = some c
  cab : ∀ x c, X.fn x = true → X.env.cells.lookup x = some c → X.s₀.heap.objs.size ≤ c
  hd : X.calm = true → X.A.handled = none
  frames : X.A.frames = some X.stack
  stk : X.stack = X.outer ∨ (X.stack = X.env :: X.outer ∧ X.env.frame = some X.env.locals)
  exf : ∀ b ∈ X.ex, b ≠ X.env.locals ∧ ∀ x c, X.env.cells.lookup x = some c → c ≠ b
  bs : ∀ b o, X.base.get? b = some o → X.s₀.heap.get? b = some o ∧ X.H₀ b = none
  bsz : X.base.objs.size ≤ X.s₀.heap.objs.size
  noex : ∀ b o, X.base.get? b = some o → b ∉ X.ex
  exfs : ∀ b ∈ X.ex, b ∉ X.fs
  funs : X.s₀.heap.FunFrames X.base X.outer
  frf : ∀ b ∈ X.fs, X.H₀ b = none
structure Inv (X : Cx) (pins : List (Addr × Obj)) (σ : List (Option V)) (H : Hp) (s : Shared) : Prop where
  ok : X.Ok
  os : s.os = X.s₀.os
  bare : AllBare s.gens
  base : Un X.fs X.ex X.H₀ H X.s₀.heap s.heap
  loc : ∃ m, s.heap.Ns X.env.locals m ∧ ∀ (i : Nat) (x : Str) (v : V), X.N[i]? = some x → σ[i]? = some (some v) → Vis X.env.scope x → ∃ u, RelV v u ∧ Look X.env s.heap m x u
  cell : ∀ x c, X.env.cells.lookup x = some c → ∃ v, s.heap.IsCell c v
  free : H X.env.locals = none
  freeC : ∀ x c, X.env.cells.lookup x = some c → H c = none
  pin : ∀ p ∈ X.pn ++ pins, s.heap.get? p.1 = some p.2 ∧ H p.1 = none ∧ p.1 ≠ X.env.locals ∧ p.1 ∉ X.fs ∧ ∀ v, p.2.data ≠ .cell v
  hok : HOk X.prog X.w H s.heap
  len : σ.length = X.N.length
section
variable {X : Cx} {pins : List (Addr × Obj)} {σ : List (Option V)} {H H' : Hp} {s : Shared} {h' : Heap}
theorem Cx.Ok.nofr (ok : X.Ok) {b : Addr} {o : Obj} (e : X.base.get? b = some o) : b ∉ X.fs := fun hb => by
  have := (ok.funs.mem hb).1
  rw [e] at this; cases this
theorem Inv.bs (I : Inv X pins σ H s) : ∀ b o, X.base.get? b = some o → s.heap.get? b = some o ∧ H b = none := fun b o e =>
  ⟨I.base.keep b o (I.ok.bs b o e).1 (I.ok.bs b o e).2 (I.ok.nofr e) (I.ok.noex b o e), I.base.free b o (I.ok.bs b o e).1 (I.ok.bs b o e).2 (I.ok.noex b o e)⟩
theorem Inv.bk (I : Inv X pins σ H s) : ∀ b o, X.base.get? b = some o → s.heap.get? b = some o := fun b o e => (I.bs b o e).1
theorem Inv.mod (I : Inv X pins σ H s) : Mod X.K X.mg X.base := I.ok.mod
theorem Inv.kIn (I : Inv X pins σ H s) : X.K.In s.heap := I.ok.mod.kin.keeps I.bk
theorem Inv.lt (I : Inv X pins σ H s) : X.env.locals < s.heap.objs.size := let ⟨_, hn, _⟩ := I.loc; hn.lt
theorem Inv.sz (I : Inv X pins σ H s) : X.s₀.heap.objs.size ≤ s.heap.objs.size := Nat.le_trans I.ok.above (Nat.le_of_lt I.lt)
theorem Inv.nofs (I : Inv X pins σ H s) {a : Addr} (h : s.heap.objs.size ≤ a) : a ∉ X.fs := fun hb => by
  obtain ⟨_, o, ho, _⟩ := I.ok.funs.mem hb
  exact absurd (Nat.lt_of_lt_of_le (Heap.lt_size ho) (Nat.le_trans I.sz h)) (Nat.lt_irrefl _)
theorem Inv.cne (I : Inv X pins σ H s) : ∀ x c, X.env.cells.lookup x = some c → c ≠ X.env.locals := fun x c e z => by
  obtain ⟨v, o, ho, hd⟩ := I.cell x c e
  obtain ⟨m, ⟨o', es, ep, ho', hd', _⟩, _⟩ := I.loc
  rw [z, ho'] at ho; cases ho; rw [hd'] at hd; cases hd
theorem Inv.funs (I : Inv X pins σ H s) : s.heap.FunFrames X.base X.outer := by
  have all : ∀ (l : List Env), (∀ b ∈ frs l, b ∈ X.fs) → X.s₀.heap.FunFrames X.base l → s.heap.FunFrames X.base l := by
    intro l
    induction l with
    | nil => intro _ _; trivial
    | cons env r ih =>
      intro hs hl
      obtain ⟨hk, ⟨L, o, hf, hn, ho, hd⟩, hr⟩ := hl
      have hL : L ∈ X.fs := hs L (by unfold frs; rw [List.filterMap_cons, hf]; exact List.mem_cons_self)
      obtain ⟨sl, e⟩ := I.base.slot L o ho (I.ok.frf L hL) hL fun z => I.ok.exfs L z hL
      exact ⟨hk, ⟨L, _, hf, hn, e, hd⟩, ih (fun b hb => hs b (by unfold frs; rw [List.filterMap_cons, hf]; exact List.mem_cons_of_mem _ hb)) hr⟩
  exact all X.outer (fun _ hb => hb) I.ok.funs
theorem Inv.stack (I : Inv X pins σ H s) : s.heap.FunFrames X.base X.stack := by
  rcases I.ok.stk with e | ⟨e, hf⟩
  · rw [e]; exact I.funs
  · rw [e]
    obtain ⟨m, hn, _⟩ := I.loc
    refine .cons (by rw [I.ok.kind]; decide) hf hn ?_ I.funs
    exact Heap.get?_none_of_le (Nat.le_trans I.ok.bsz I.ok.above)
theorem Inv.stkSub (I : Inv X pins σ H s) : ∀ b ∈ frs X.stack, b ∈ X.env.locals :: X.fs := fun b hb => by
  rcases I.ok.stk with e | ⟨e, hf⟩
  · rw [e] at hb; exact List.mem_cons_of_mem _ hb
  · rw [e] at hb
    unfold frs at hb
    rw [List.filterMap_cons, hf] at hb
    exact hb
theorem Inv.stkFree (I : Inv X pins σ H s) : ∀ b ∈ frs X.stack, H b = none := fun b hb => by
  rcases List.mem_cons.mp (I.stkSub b hb) with e | hb
  · rw [e]; exact I.free
  · obtain ⟨_, o, ho, _⟩ := I.ok.funs.mem hb
    exact I.base.free b o ho (I.ok.frf b hb) fun z => I.ok.exfs b z hb
theorem Inv.step {g' : Array GenState} {t' : Nat} {d' : Drawn} {ch : List Addr} (I : Inv X pins σ H s)
    (hch : ∀ b ∈ ch, (b ∈ X.ex ∨ X.s₀.heap.objs.size ≤ b) ∧ b ≠ X.env.locals ∧ (∀ x c, X.env.cells.lookup x = some c → c ≠ b) ∧ ∀ p ∈ X.pn ++ pins, p.1 ≠ b)
    (keep : ∀ b o, b ≠ X.env.locals → b ∉ X.fs → b ∉ ch → s.heap.get? b = some o → H b = none → h'.get? b = some o)
    (slot : ∀ b o, b ≠ X.env.locals → b ∈ X.fs → b ∉ ch → s.heap.get? b = some o → H b = none → ∃ sl, h'.get? b = some { o with slots := sl }) (free : ∀ b o, b ∉ ch → s.heap.get? b = some o → H b = none → H' b = none)
    (there : ∀ b o, b ∉ ch → s.heap.get? b = some o → ∃ o', h'.get? b = some o')
    (tups : ∀ b xs, H b = some (.tup xs) → H' b = some (.tup xs)) (frzs : ∀ b o u, H b = some (.frz o u) → H' b = some (.frz o u)) (tbls : ∀ b ps, H b = some (.tbl ps) → ∃ more, H' b = some (.tbl (ps ++ more)))
    (ns : ∀ m, s.heap.Ns X.env.locals m → h'.Ns X.env.locals m) (hok : HOk X.prog X.w H' h') (hg : AllBare g') :
    Inv X pins σ H' { s with heap := h', gens := g', drawn := d', toks := t' } := by
  have neL : ∀ b o, X.s₀.heap.get? b = some o → b ≠ X.env.locals := fun b o e => Nat.ne_of_lt (Nat.lt_of_lt_of_le (Heap.lt_size e) I.ok.above)
  have neC : ∀ b o, X.s₀.heap.get? b = some o → b ∉ X.ex → b ∉ ch := fun b o e hx hb => by
    rcases (hch b hb).1 with z | z
    · exact hx z
    · exact absurd (Nat.lt_of_lt_of_le (Heap.lt_size e) z) (Nat.lt_irrefl _)
  have cellK : ∀ x c, X.env.cells.lookup x = some c → ∀ v, s.heap.IsCell c v → h'.IsCell c v := fun x c e v ⟨o, ho, hd⟩ => by
    have nch : c ∉ ch := fun z => (hch c z).2.2.1 x c e rfl
    by_cases hc : c ∈ X.fs
    · obtain ⟨sl, q⟩ := slot c o (I.cne x c e) hc nch ho (I.freeC x c e)
      exact ⟨_, q, hd⟩
    · exact ⟨o, keep c o (I.cne x c e) hc nch ho (I.freeC x c e), hd⟩
  refine ⟨I.ok, I.os, hg, ⟨fun b o e n hb hx => ?_, fun b o e n hb hx => ?_, fun b o e n hx => ?_, fun b o e hx => ?_, fun b xs e => tups b xs (I.base.tups b xs e), fun b o xs e => frzs b o xs (I.base.frzs b o xs e), fun b ps e => ?_⟩, ?_, fun x c e => ?_, ?_, fun x c e => ?_, fun p hp => ?_, hok, I.len⟩
  · exact keep b o (neL b o e) hb (neC b o e hx) (I.base.keep b o e n hb hx) (I.base.free b o e n hx)
  · obtain ⟨sl, e1⟩ := I.base.slot b o e n hb hx
    obtain ⟨sl', e2⟩ := slot b _ (neL b o e) hb (neC b o e hx) e1 (I.base.free b o e n hx)
    exact ⟨sl', e2⟩
  · obtain ⟨o', e1⟩ := I.base.there b o e hx
    exact free b o' (neC b o e hx) e1 (I.base.free b o e n hx)
  · obtain ⟨o', e1⟩ := I.base.there b o e hx
    exact there b o' (neC b o e hx) e1
  · obtain ⟨m1, e1⟩ := I.base.tbls b ps e
    obtain ⟨m2, e2⟩ := tbls b _ e1
    exact ⟨m1 ++ m2, by rw [e2, Array.append_assoc]⟩
  · obtain ⟨m, hn, hl⟩ := I.loc
    refine ⟨m, ns m hn, fun i x v e1 e2 e3 => ?_⟩
    obtain ⟨u, r, l⟩ := hl i x v e1 e2 e3
    refine ⟨u, r, ?_⟩
    rcases l with l | ⟨k, c, e, z⟩
    · exact .inl l
    · exact .inr ⟨k, c, e, cellK x c e _ z⟩
  · obtain ⟨v, z⟩ := I.cell x c e
    exact ⟨v, cellK x c e v z⟩
  · obtain ⟨m, ⟨o, _, _, ho, _⟩, _⟩ := I.loc
    exact free _ o (fun z => (hch _ z).2.1 rfl) ho I.free
  · obtain ⟨v, o, ho, hd⟩ := I.cell x c e
    exact free c o (fun z => (hch c z).2.2.1 x c e rfl) ho (I.freeC x c e)
  · obtain ⟨e, n, ne, nf, d⟩ := I.pin p hp
    have nch : p.1 ∉ ch := fun z => (hch p.1 z).2.2.2 p hp rfl
    exact ⟨keep p.1 p.2 ne nf nch e n, free p.1 p.2 nch e n, ne, nf, d⟩
theorem Inv.un {t' : Nat} (I : Inv X pins σ H s) (u : Un X.fs [] H H' s.heap h') (hok : HOk X.prog X.w H' h') : Inv X pins σ H' { s with heap := h', toks := t' } := by
  obtain ⟨m, ⟨o, es, ep, ho, r⟩, _⟩ := id I.loc
  obtain ⟨sl, hL⟩ := u.any ho I.free (by simp)
  exact I.step (g' := s.gens) (d' := s.drawn) (ch := []) (fun _ z => nomatch z) (fun b o _ hb _ e n => u.keep b o e n hb (by simp)) (fun b o _ hb _ e n => u.slot b o e n hb (by simp)) (fun b o _ e n => u.free b o e n (by simp)) (fun b o _ e => u.there b o e (by simp)) u.tups u.frzs u.tbls (fun m' hm => by
    obtain ⟨o', es', ep', ho', r'⟩ := hm
    rw [ho] at ho'; cases ho'
    exact ⟨_, es', ep', hL, r'⟩) hok I.bare
theorem Inv.call {g' : Array GenState} {t' : Nat} {d' : Drawn} {ch : List Addr} (I : Inv X pins σ H s) (u : Un (frs X.stack) ch H H' s.heap h') (hok : HOk X.prog X.w H' h') (hg : AllBare g')
    (hch : ∀ b ∈ ch, (b ∈ X.ex ∨ X.s₀.heap.objs.size ≤ b) ∧ b ≠ X.env.locals ∧ (∀ x c, X.env.cells.lookup x = some c → c ≠ b) ∧ ∀ p ∈ X.pn ++ pins, p.1 ≠ b) :
    Inv X pins σ H' { s with heap := h', gens := g', drawn := d', toks := t' } := by
  obtain ⟨m, ⟨o, es, ep, ho, r⟩, _⟩ := id I.loc
  obtain ⟨sl, hL⟩ := u.any ho I.free fun z => (hch _ z).2.1 rfl
  exact I.step (ch := ch) hch (fun b o hL hb hc e n => u.keep b o e n (fun z => (List.mem_cons.mp (I.stkSub b z)).elim hL hb) hc) (fun b o _ _ hc e n => u.any e n hc) (fun b o hc e n => u.free b o e n hc) (fun b o hc e => u.there b o e hc) u.tups u.frzs u.tbls (fun m' hm => by
    obtain ⟨o', es', ep', ho', r'⟩ := hm
    rw [ho] at ho'; cases ho'
    exact ⟨_, es', ep', hL, r'⟩) hok hg
theorem Inv.turned {t' : Nat} {it : Addr} (I : Inv X pins σ H s) (k : ∀ b o, b ≠ it → s.heap.get? b = some o → h'.get? b = some o) (hn : H it = none) (hL : it ≠ X.env.locals)
    (h1 : it ∈ X.ex ∨ X.s₀.heap.objs.size ≤ it) (h2 : ∀ x c, X.env.cells.lookup x = some c → c ≠ it) (h3 : ∀ p ∈ X.pn ++ pins, p.1 ≠ it) : Inv X pins σ H { s with heap := h', toks := t' } := by
  have nit : ∀ b u, H b = some u → b ≠ it := fun b u e z => by rw [z, hn] at e; cases e
  refine I.step (g' := s.gens) (d' := s.drawn) (ch := [it]) (fun b hb => ?_) (fun b o _ _ hc e _ => k b o (fun z => hc (by simp [z])) e) (fun b o _ _ hc e _ => ⟨o.slots, k b o (fun z => hc (by simp [z])) e⟩) (fun _ _ _ _ n => n)
    (fun b o hc e => ⟨o, k b o (fun z => hc (by simp [z])) e⟩) (fun _ _ e => e) (fun _ _ _ e => e) (fun b ps e => ⟨#[], by rw [e]; simp⟩) (fun m hm => ?_) (fun b u e => ?_) I.bare
  · have e : b = it := by simpa using hb
    subst e
    exact ⟨h1, hL, h2, h3⟩
  · obtain ⟨o, es, ep, ho, r⟩ := hm
    exact ⟨o, es, ep, k _ o (Ne.symm hL) ho, r⟩
  · refine (I.hok b u e).stay (fun c v hc q => k c v ?_ q) (fun _ q => q) fun _ _ q => q
    rcases hc with z | z
    · rw [z]; exact nit b u e
    · exact nit c _ z
theorem Inv.tok (I : Inv X pins σ H s) (t : Nat) : Inv X pins σ H { s with toks := t } := I.un (h' := s.heap) (t' := t) Un.refl I.hok
theorem Inv.kept {t' : Nat} (I : Inv X pins σ H s) (k : ∀ b u, s.heap.get? b = some u → h'.get? b = some u) : Inv X pins σ H { s with heap := h', toks := t' } := I.un (Un.kept k) (I.hok.kept k)
theorem Inv.laid {a : Addr} {o : HO} {t' : Nat} (I : Inv X pins σ H s) (k : ∀ b u, s.heap.get? b = some u → h'.get? b = some u) (hp : s.heap.objs.size ≤ a) (new : ObjOk X.prog X.w (upd H a o) h' a o) :
    Inv X pins σ (upd H a o) { s with heap := h', toks := t' } := I.un (Un.laid k hp (I.hok.fresh hp)) (I.hok.laid k hp new)
theorem Inv.write {x e : Addr} {o : HO} {t' : Nat} (I : Inv X pins σ H s) (mu : Mut (H x)) (he : e = x ∨ H e = some (.own x)) (k : ∀ b u, b ≠ e → s.heap.get? b = some u → h'.get? b = some u) (heo : ∃ u, h'.get? e = some u)
    (new : ObjOk X.prog X.w (upd H x o) h' x o) : Inv X pins σ (upd H x o) { s with heap := h', toks := t' } := I.un (Un.write mu he k heo) (I.hok.write mu he k heo new)
theorem Inv.weak {σ' : List (Option V)} (I : Inv X pins σ H s) (hl : σ'.length = σ.length) (w : ∀ (i : Nat) v, σ'[i]? = some (some v) → σ[i]? = some (some v)) : Inv X pins σ' H s :=
  ⟨I.ok, I.os, I.bare, I.base, let ⟨m, hn, hl'⟩ := I.loc; ⟨m, hn, fun i x v e1 e2 e3 => hl' i x v e1 (w i v e2) e3⟩, I.cell, I.free, I.freeC, I.pin, I.hok, hl.trans I.len⟩
theorem Inv.pins_of {pins' : List (Addr × Obj)} (I : Inv X pins σ H s) (h : ∀ p ∈ pins', s.heap.get? p.1 = some p.2 ∧ H p.1 = none ∧ p.1 ≠ X.env.locals ∧ p.1 ∉ X.fs ∧ ∀ v, p.2.data ≠ .cell v) : Inv X pins' σ H s :=
  ⟨I.ok, I.os, I.bare, I.base, I.loc, I.cell, I.free, I.freeC, fun p hp => (List.mem_append.mp hp).elim (fun z => I.pin p (List.mem_append_left _ z)) (h p), I.hok, I.len⟩
theorem nodup_ix {N : List Str} (hN : N.Nodup) {i j : Nat} {x : Str} (a : N[i]? = some x) (b : N[j]? = some x) : i = j := by
  obtain ⟨h1, e1⟩ := List.getElem?_eq_some_iff.mp a
  obtain ⟨h2, e2⟩ := List.getElem?_eq_some_iff.mp b
  exact (List.getElem_inj hN).mp (e1.trans e2.symm)
theorem store_ok2 {M : Model} {A : Around} {E : Value → Shared → Prop} {i : Nat} {x : Str} {v : V} {u : Value} {Q : Unit → Shared → Prop} (I : Inv X pins σ H s) (hN : X.N.Nodup) (hi : X.N[i]? = some x) (hx : Loc X.env.scope x) (r : RelV v u)
    (h : ∀ s', Inv X pins (σ.set i (some v)) H s' → (∃ a, Heap.SameBut a s.heap s'.heap ∧ (a = X.env.locals ∨ X.env.cells.lookup x = some a)) → Q () s') (hf : X.fn x = true ∨ X.env.scope.names.lookup x = some .local := by first | exact .inl rfl | exact .inr rfl | assumption) : wpAny M A (storeName X.env x u) Q E s := by
  obtain ⟨m, hn, hl⟩ := id I.loc
  have hcls : (X.env.scope.kind == .class || (X.env.scope.kind == .module && X.env.locals != X.env.globals)) = false := by rw [I.ok.kind]; rfl
  have hiσ : i < σ.length := by rw [I.len]; exact (List.getElem?_eq_some_iff.mp hi).1
  have cne := I.cne
  have tracked : ∀ {a : Addr} {h' : Heap}, (∃ o, s.heap.get? a = some o ∧ H a = none) → Heap.SameBut a s.heap h' → HOk X.prog X.w H h' := fun {a h'} ha hs b ob e => by
    obtain ⟨_, _, hfree⟩ := ha
    refine (I.hok b ob e).stay (fun c w' hc q => (hs.2 c ?_).trans q) (fun _ q => q) fun _ _ q => q
    rintro rfl
    rcases hc with rfl | hc
    · rw [hfree] at e; cases e
    · rw [hfree] at hc; cases hc
  rcases hx with hk | hk
  · refine wpAny_storeName_local hk hn (fun h' hn' hs => ?_) hcls
    obtain ⟨oL, _, _, hoL, _⟩ := id hn
    refine h _ ⟨I.ok, I.os, I.bare, ⟨fun b o e n hb hx => ?_, fun b o e n hb hx => ?_, I.base.free, fun b o e hx => ?_, I.base.tups, I.base.frzs, I.base.tbls⟩, ⟨_, hn', fun j y v' e1 e2 e3 => ?_⟩, fun y c e => ?_, I.free, I.freeC, fun p hp => ?_, tracked ⟨oL, hoL, I.free⟩ hs, by simpa using I.len⟩ ⟨_, hs, .inl rfl⟩
    · exact (hs.2 b (Nat.ne_of_lt (Nat.lt_of_lt_of_le (Heap.lt_size e) I.ok.above))).trans (I.base.keep b o e n hb hx)
    · obtain ⟨sl, e1⟩ := I.base.slot b o e n hb hx
      exact ⟨sl, (hs.2 b (Nat.ne_of_lt (Nat.lt_of_lt_of_le (Heap.lt_size e) I.ok.above))).trans e1⟩
    · obtain ⟨o', e1⟩ := I.base.there b o e hx
      exact ⟨o', (hs.2 b (Nat.ne_of_lt (Nat.lt_of_lt_of_le (Heap.lt_size e) I.ok.above))).trans e1⟩
    · by_cases hj : j = i
      · subst hj
        rw [hi] at e1; cases e1
        rw [List.getElem?_set_self hiσ] at e2
        cases e2
        exact ⟨u, r, .inl ⟨hk, by simp⟩⟩
      · rw [List.getElem?_set_ne (Ne.symm hj)] at e2
        obtain ⟨u', r', q⟩ := hl j y v' e1 e2 e3
        refine ⟨u', r', ?_⟩
        rcases q with ⟨k, e⟩ | ⟨k, c, e, z⟩
        · refine .inl ⟨k, ?_⟩
          have : y ≠ x := fun e => hj (nodup_ix hN e1 (e ▸ hi))
          simp [this, e]
        · exact .inr ⟨k, c, e, z.sameBut hs (cne y c e)⟩
    · obtain ⟨w', z⟩ := I.cell y c e
      exact ⟨w', z.sameBut hs (cne y c e)⟩
    · obtain ⟨e, n, ne, nf, d⟩ := I.pin p hp
      exact ⟨(hs.2 p.1 ne).trans e, n, ne, nf, d⟩
  · have hfn : X.fn x = true := by
      rcases hf with z | z
      · exact z
      · rw [z] at hk; cases hk
    obtain ⟨c, hc⟩ := I.ok.has x (.inl hk)
    obtain ⟨w', z⟩ := I.cell x c hc
    refine wpAny_storeName_cell I.ok.kind hk hc z (fun h' hc' hs => ?_)
    obtain ⟨oc, hoc, hocd⟩ := id z
    refine h { s with heap := h' } ⟨I.ok, I.os, I.bare, ⟨fun b o e n hb hx => ?_, fun b o e n hb hx => ?_, I.base.free, fun b o e hx => ?_, I.base.tups, I.base.frzs, I.base.tbls⟩, ⟨m, hn.sameBut hs (Ne.symm (cne x c hc)), fun j y v' e1 e2 e3 => ?_⟩, fun y c' e => ?_, I.free, I.freeC, fun p hp => ?_, tracked ⟨oc, hoc, I.freeC x c hc⟩ hs, by simpa using I.len⟩ ⟨c, hs, .inr hc⟩
    · exact (hs.2 b (Nat.ne_of_lt (Nat.lt_of_lt_of_le (Heap.lt_size e) (I.ok.cab x c hfn hc)))).trans (I.base.keep b o e n hb hx)
    · obtain ⟨sl, e1⟩ := I.base.slot b o e n hb hx
      exact ⟨sl, (hs.2 b (Nat.ne_of_lt (Nat.lt_of_lt_of_le (Heap.lt_size e) (I.ok.cab x c hfn hc)))).trans e1⟩
    · obtain ⟨o', e1⟩ := I.base.there b o e hx
      exact ⟨o', (hs.2 b (Nat.ne_of_lt (Nat.lt_of_lt_of_le (Heap.lt_size e) (I.ok.cab x c hfn hc)))).trans e1⟩
    · by_cases hj : j = i
      · subst hj
        rw [hi] at e1; cases e1
        rw [List.getElem?_set_self hiσ] at e2
        cases e2
        exact ⟨u, r, .inr ⟨.inl hk, c, hc, hc'⟩⟩
      · rw [List.getElem?_set_ne (Ne.symm hj)] at e2
        obtain ⟨u', r', q⟩ := hl j y v' e1 e2 e3
        refine ⟨u', r', ?_⟩
        rcases q with q | ⟨k, c', e, z'⟩
        · exact .inl q
        · refine .inr ⟨k, c', e, z'.sameBut hs ?_⟩
          rintro rfl
          exact hj (nodup_ix hN e1 (I.ok.inj _ _ _ e hc ▸ hi))
    · by_cases hcc : c' = c
      · subst hcc; exact ⟨_, hc'⟩
      · obtain ⟨w2, z2⟩ := I.cell y c' e
        exact ⟨w2, z2.sameBut hs hcc⟩
    · obtain ⟨e, n, ne, nf, d⟩ := I.pin p hp
      refine ⟨(hs.2 p.1 ?_).trans e, n, ne, nf, d⟩
      intro q
      rw [q, hoc] at e
      have q' : oc = p.2 := Option.some.inj e
      exact d w' (by rw [← q']; exact hocd)
theorem store_ok {M : Model} {A : Around} {E : Value → Shared → Prop} {i : Nat} {x : Str} {v : V} {u : Value} {Q : Unit → Shared → Prop} (I : Inv X pins σ H s) (hN : X.N.Nodup) (hi : X.N[i]? = some x) (hx : Loc X.env.scope x) (r : RelV v u)
    (h : ∀ s', Inv X pins (σ.set i (some v)) H s' → Q () s') (hf : X.fn x = true ∨ X.env.scope.names.lookup x = some .local := by first | exact .inl rfl | exact .inr rfl | assumption) : wpAny M A (storeName X.env x u) Q E s :=
  store_ok2 I hN hi hx r (fun s' I' _ => h s' I') hf
theorem Inv.call' {s' : Shared} {ch : List Addr} (I : Inv X pins σ H s) (ho : s'.os = s.os) (u : Un (frs X.stack) ch H H' s.heap s'.heap) (hok : HOk X.prog X.w H' s'.heap) (hg : AllBare s'.gens)
    (hch : ∀ b ∈ ch, (b ∈ X.ex ∨ X.s₀.heap.objs.size ≤ b) ∧ b ≠ X.env.locals ∧ (∀ x c, X.env.cells.lookup x = some c → c ≠ b) ∧ ∀ p ∈ X.pn ++ pins, p.1 ≠ b) : Inv X pins σ H' s' := by
  obtain ⟨h', g', d', t', o'⟩ := s'
  have e : o' = s.os := ho
  subst e
  exact I.call (g' := g') (t' := t') (d' := d') u hok hg hch
end
abbrev XK := Value → Option Addr → Hp → Prop
abbrev St := List (Option V)
abbrev VK := V → Hp → Prop
abbrev TE := St → Hp → VK → Prop
abbrev TT := St → Hp → (Bool → Hp → Prop) → Prop
abbrev TA := St → Hp → (List V → Hp → Prop) → Prop
structure Ends where
  nx : St → Hp → Prop
  rt : VK
  bk : St → Hp → Prop := fun _ _ => False
  ct : St → Hp → Prop := fun _ _ => False
abbrev TS := Ends → St → Hp → Prop
def EP (X : Cx) (pins : List (Addr × Obj)) (σ : St) (Q : VK) (u : Value) (s' : Shared) : Prop := ∃ v H', Inv X pins σ H' s' ∧ RelV v u ∧ Q v H'
def TP (X : Cx) (pins : List (Addr × Obj)) (σ : St) (Q : Bool → Hp → Prop) (b : Bool) (s' : Shared) : Prop := ∃ H', Inv X pins σ H' s' ∧ Q b H'
def AP (X : Cx) (pins : List (Addr × Obj)) (σ : St) (Q : List V → Hp → Prop) (us : List Value) (s' : Shared) : Prop := ∃ vs H', Inv X pins σ H' s' ∧ Vals vs us ∧ Q vs H'
def SP (X : Cx) (pins : List (Addr × Obj)) (D : Ends) (f : Flow) (s' : Shared) : Prop :=
  match f with
  | .next => ∃ σ' H', Inv X pins σ' H' s' ∧ D.nx σ' H'
  | .brk => ∃ σ' H', Inv X pins σ' H' s' ∧ D.bk σ' H'
  | .cont => ∃ σ' H', Inv X pins σ' H' s' ∧ D.ct σ' H'
  | .ret u => ∃ v σ' H', Inv X pins σ' H' s' ∧ RelV v u ∧ D.rt v H'
def PE (X : Cx) (e : Expr) (t : TE) : Prop :=
  ∀ (pins : List (Addr × Obj)) (s : Shared) (σ : St) (H : Hp) (Q : VK), Inv X pins σ H s → t σ H Q → wpAny (model X.prog X.w) X.A (eval e X.env) (EP X pins σ Q) X.xe s
def PT (X : Cx) (e : Expr) (t : TT) : Prop :=
  ∀ (pins : List (Addr × Obj)) (s : Shared) (σ : St) (H : Hp) (Q : Bool → Hp → Prop), Inv X pins σ H s → t σ H Q → wpAny (model X.prog X.w) X.A (isTrue e X.env (eval e X.env)) (TP X pins σ Q) X.xe s
def PW (X : Cx) (e : Expr) (t : TT) : Prop :=
  ∀ (whole : Sem Value) (pins : List (Addr × Obj)) (s : Shared) (σ : St) (H : Hp) (Q : Bool → Hp → Prop), Inv X pins σ H s → t σ H Q → wpAny (model X.prog X.w) X.A (isTrue e X.env whole) (TP X pins σ Q) X.xe s
theorem PW.pt {X : Cx} {e : Expr} {t : TT} (h : PW X e t) : PT X e t := h _
def PA (X : Cx) (es : List Expr) (t : TA) : Prop :=
  ∀ (pos : Pos) (pins : List (Addr × Obj)) (s : Shared) (σ : St) (H : Hp) (Q : List V → Hp → Prop), Inv X pins σ H s → t σ H Q → wpAny (model X.prog X.w) X.A (spliced (backTo pos (starEach es X.env))) (AP X pins σ Q) X.xe s
def PS (X : Cx) (st : Stmt) (t : TS) : Prop :=
  ∀ (pins : List (Addr × Obj)) (s : Shared) (σ : St) (H : Hp) (D : Ends), Inv X pins σ H s → t D σ H → wpAny (model X.prog X.w) X.A (exec st X.env) (SP X pins D) X.xe s
def PSs (X : Cx) (st : List Stmt) (t : TS) : Prop :=
  ∀ (pins : List (Addr × Obj)) (s : Shared) (σ : St) (H : Hp) (D : Ends), Inv X pins σ H s → t D σ H → wpAny (model X.prog X.w) X.A (execs st X.env) (SP X pins D) X.xe s
theorem thn {α : Type} {t : Sem α} {Q Q' : α → Shared → Prop} {M : Model} {A : Around} {E : Value → Shared → Prop} {s : Shared} (h : wpAny M A t Q E s) (hQ : ∀ a s, Q a s → Q' a s) : wpAny M A t Q' E s := wpAny_mono h hQ fun _ _ x => x
end L2
namespace L2
open PySem PySem.Spec PyProof.Rows
section
variable {X : Cx}
def tVar (i : Nat) : TE := fun σ H Q => ∃ v, σ[i]? = some (some v) ∧ Q v H
def tC (v : V) : TE := fun _ H Q => Q v H
theorem pe_var {i : Nat} {x : Str} {pos : Pos} (hN : X.N[i]? = some x) (hv : Vis X.env.scope x) (hd : (x == ("__debug__" : Str)) = false := by decide) (hcd : (x == ("__classdict__" : Str)) = false := by decide) : PE X (.Name x pos) (tVar i) := by
  intro pins s σ H Q I h
  obtain ⟨v, e, h⟩ := h
  obtain ⟨m, hn, hl⟩ := I.loc
  obtain ⟨u, r, l⟩ := hl i x v hN e hv
  have fin : EP X pins σ Q u s := ⟨v, H, I, r, h⟩
  rcases l with ⟨hk, hm⟩ | ⟨hk, c, hc, hcell⟩
  · exact wpAny_Name (wpAny_loadName_local I.ok.kind hk hn hm fin) hd
  · rcases hk with hk | hk
    · exact wpAny_Name (wpAny_loadName_cell I.ok.kind hk hc hcell fin) hd
    · exact wpAny_Name (wpAny_loadName_free I.ok.kind hk hc hcell fin hcd) hd
theorem pe_int {i j pos} : PE X (.Constant (.int i) j pos) (tC (.int i)) := fun _ _ _ H _ I h => wpAny_Constant_int ⟨.int i, H, I.tok _, ⟨_, rfl⟩, h⟩
theorem pe_bl {b j pos} : PE X (.Constant (.bool b) j pos) (tC (.bl b)) := fun _ _ _ H _ I h => Constant_bool ⟨.bl b, H, I, rfl, h⟩
theorem pe_str {x j pos} : PE X (.Constant (.str x) j pos) (tC (.str x)) := fun _ _ _ H _ I h => Calls.Constant_str ⟨.str x, H, I.tok _, ⟨_, rfl⟩, h⟩
def Gl (X : Cx) (x : Str) : Prop := X.env.kindOf x = some .globalImplicit
theorem ld_glob {E : Value → Shared → Prop} {pins : List (Addr × Obj)} {s : Shared} {σ : St} {H : Hp} {x : Str} {u : Value} {pos : Pos} {Q : Value → Shared → Prop} (I : Inv X pins σ H s) (hg : Gl X x) (hm : X.mg x = some u) (h : Q u s)
    (hd : (x == ("__debug__" : Str)) = false := by decide) : wpAny (model X.prog X.w) X.A (eval (.Name x pos) X.env) Q E s :=
  Calls.Name_function_global I.ok.kind hg (Calls.loadGlobal_global (by rw [I.ok.glob]; exact I.mod.glob.keeps I.bk) hm h) hd
theorem ld_blt {E : Value → Shared → Prop} {pins : List (Addr × Obj)} {s : Shared} {σ : St} {H : Hp} {x : Str} {u : Value} {pos : Pos} {Q : Value → Shared → Prop} (I : Inv X pins σ H s) (hg : Gl X x) (hm : X.mg x = none) (hv : bootBuiltins x = some u) (h : Q u s)
    (hn : x ≠ "__name__" := by decide) (hd : (x == ("__debug__" : Str)) = false := by decide) : wpAny (model X.prog X.w) X.A (eval (.Name x pos) X.env) Q E s := by
  obtain ⟨mb, h1, h2⟩ := I.mod.blt
  exact Calls.Name_function_global I.ok.kind hg (Calls.loadGlobal_builtin (by rw [I.ok.glob]; exact I.mod.glob.keeps I.bk) hm (by rw [I.ok.blt]; exact h1.keeps I.bk) ((h2 x hn).trans hv) h) hd
theorem pe_glob {x : Str} {v : V} {u : Value} {pos : Pos} (hg : Gl X x) (hm : X.mg x = some u) (r : RelV v u) (hd : (x == ("__debug__" : Str)) = false := by decide) : PE X (.Name x pos) (tC v) :=
  fun _ _ _ H _ I h => ld_glob I hg hm ⟨v, H, I, r, h⟩ hd
theorem pe_bltn {x : Str} {v : V} {u : Value} {pos : Pos} (hg : Gl X x) (hm : X.mg x = none) (hv : bootBuiltins x = some u) (r : RelV v u) (hn : x ≠ "__name__" := by decide) (hd : (x == ("__debug__" : Str)) = false := by decide) : PE X (.Name x pos) (tC v) :=
  fun _ _ _ H _ I h => ld_blt I hg hm hv ⟨v, H, I, r, h⟩ hn hd
variable {a b : Expr} {ta tb : TE} {pos : Pos}
def PC (X : Cx) (op : CmpOp) (a b : Expr) (t : TE) : Prop :=
  ∀ (pins : List (Addr × Obj)) (s : Shared) (σ : St) (H : Hp) (Q : VK), Inv X pins σ H s → t σ H Q →
    wpAny (model X.prog X.w) X.A (eval a X.env) (fun v s₁ => wpAny (model X.prog X.w) X.A (eval b X.env) (fun u s₂ => wpAny (model X.prog X.w) X.A (compareOp op v u) (EP X pins σ Q) X.xe s₂) X.xe s₁) X.xe s
def tB (t : TE) : TT := fun σ H Q => t σ H fun x H1 => ∃ c, x = .bl c ∧ Q c H1
theorem pe_cmp {op : CmpOp} {t : TE} (h : PC X op a b t) (h1 : behindInMarks op b = false := by first | exact nobehind _ (by decide) (by decide) | rfl) : PE X (.Compare a [op] [b] pos) t := fun pins s σ H Q I hw => wpAny_Compare1 (h pins s σ H Q I hw) h1
theorem pt_val {e : Expr} {t : TE} (h : PE X e t) (he : ∀ whole, isTrue e X.env whole = (do let v ← whole; standAt e.pos; holding [v] (truthy v)) := by intro _; rfl) : PT X e (tB t) := by
  intro pins s σ H Q I hw
  refine isTrue_plain (thn (h pins s σ H _ I hw) fun v s1 ⟨x, H1, I1, r1, q1⟩ => ?_) (he _)
  obtain ⟨d, rfl, q⟩ := q1
  cases r1
  exact wpAny_truthy_bool ⟨H1, I1, q⟩
variable {tA tB' : TT} {rest : List Expr}
def tAnd (t u : TT) : TT := fun σ H Q => t σ H fun c H1 => if c = true then u σ H1 Q else Q false H1
def tOr (t u : TT) : TT := fun σ H Q => t σ H fun c H1 => if c = true then Q true H1 else u σ H1 Q
def tNot (t : TT) : TT := fun σ H Q => t σ H fun c H1 => Q (!c) H1
theorem pw_and1 (ha : PT X a tA) : PW X (.BoolOp .And [a] pos) tA := by
  intro wh pins s σ H Q I h
  refine isTrue_and (thn (ha pins s σ H Q I h) fun c s1 e => ?_)
  cases c with
  | true => exact isTrue_and_nil e
  | false => exact e
theorem pw_or1 (ha : PT X a tA) : PW X (.BoolOp .Or [a] pos) tA := by
  intro wh pins s σ H Q I h
  refine isTrue_or (thn (ha pins s σ H Q I h) fun c s1 e => ?_)
  cases c with
  | false => exact isTrue_or_nil e
  | true => exact e
theorem pw_and (ha : PT X a tA) (hb : PW X (.BoolOp .And (b :: rest) pos) tB') : PW X (.BoolOp .And (a :: b :: rest) pos) (tAnd tA tB') := by
  intro wh pins s σ H Q I h
  refine isTrue_and (thn (ha pins s σ H _ I h) fun c s1 ⟨H1, I1, q1⟩ => ?_)
  cases c with
  | true => exact hb wh pins s1 σ H1 Q I1 q1
  | false => exact ⟨H1, I1, q1⟩
theorem pw_or (ha : PT X a tA) (hb : PW X (.BoolOp .Or (b :: rest) pos) tB') : PW X (.BoolOp .Or (a :: b :: rest) pos) (tOr tA tB') := by
  intro wh pins s σ H Q I h
  refine isTrue_or (thn (ha pins s σ H _ I h) fun c s1 ⟨H1, I1, q1⟩ => ?_)
  cases c with
  | true => exact ⟨H1, I1, q1⟩
  | false => exact hb wh pins s1 σ H1 Q I1 q1
theorem pt_not (ha : PT X a tA) : PT X (.UnaryOp .Not a pos) (tNot tA) := by
  intro pins s σ H Q I h
  exact isTrue_not (ha pins s σ H (fun c H1 => Q (!c) H1) I h)
def tOrV (ta tb : TE) : TE := fun σ H Q => ta σ H fun x H1 => ∃ c, x = .bl c ∧ if c = true then Q (.bl true) H1 else tb σ H1 Q
theorem pe_one {op} {t : TE} (h : PE X a t) : PE X (.BoolOp op [a] pos) t := fun pins s σ H Q I hw => BoolOp_one (h pins s σ H Q I hw)
theorem pe_or (ha : PE X a ta) (hb : PE X (.BoolOp .Or (b :: rest) pos) tb) : PE X (.BoolOp .Or (a :: b :: rest) pos) (tOrV ta tb) := by
  intro pins s σ H Q I h
  refine BoolOp_or (thn (ha pins s σ H _ I h) fun v s1 ⟨x, H1, I1, r1, q1⟩ => ?_)
  obtain ⟨c, rfl, q1⟩ := q1
  cases r1
  refine wpAny_truthy_bool ?_
  cases c with
  | false => exact hb pins s1 σ H1 Q I1 q1
  | true => exact ⟨.bl true, H1, I1, rfl, q1⟩
def tIf (t : TT) (ta tb : TE) : TE := fun σ H Q => t σ H fun c H1 => if c = true then ta σ H1 Q else tb σ H1 Q
theorem pe_ifExp {c : Expr} (hc : PT X c tA) (ha : PE X a ta) (hb : PE X b tb) : PE X (.IfExp c a b pos) (tIf tA ta tb) := by
  intro pins s σ H Q I h
  refine wpAny_IfExp (thn (hc pins s σ H _ I h) fun d s1 ⟨H1, I1, q1⟩ => ?_)
  cases d with
  | true => exact ha pins s1 σ H1 Q I1 q1
  | false => exact hb pins s1 σ H1 Q I1 q1
end
end L2
namespace L2
open PySem PySem.Spec PyProof.Rows
def SqL (K : PySem.W.Frag) (H : Hp) (a : Addr) (xs : List V) : Prop :=
  Rd H a (.lst xs) ∨
    ∃ (o : Obj) (its : Array Value) (n : Nat), K.lookup a = some o ∧ o.cls = .type "list" ∧ o.dict = none ∧ o.data = .seq its n ∧ its.size ≤ sizeLine ∧ Vals xs its.toList
def SqT (K : PySem.W.Frag) (H : Hp) (a : Addr) (xs : List V) : Prop :=
  Rd H a (.tup xs) ∨
    ∃ (o : Obj) (its : Array Value) (n : Nat), K.lookup a = some o ∧ o.cls = .type "tuple" ∧ o.data = .seq its n ∧ its.size ≤ sizeLine ∧ Vals xs its.toList
def absV : Value → Option V
  | .none => some .non
  | .bool b => some (.bl b)
  | .int i _ => some (.int i)
  | .str x _ => some (.str x)
  | .bytes b _ => some (.byt b)
  | .float b _ => some (.flt b)
  | .ref a => some (.ref a)
  | .type n => some (.ty n)
  | _ => none
theorem RelV.abs {x : V} {u : Value} (r : RelV x u) : absV u = some x := by
  cases x with
  | non => cases r; rfl
  | bl _ => cases r; rfl
  | int _ => obtain ⟨t, rfl⟩ := r; rfl
  | str _ => obtain ⟨t, rfl⟩ := r; rfl
  | byt _ => obtain ⟨t, rfl⟩ := r; rfl
  | flt _ => obtain ⟨t, rfl⟩ := r; rfl
  | ref _ => cases r; rfl
  | ty _ => cases r; rfl
theorem RelV.inj {x y : V} {u : Value} (r : RelV x u) (q : RelV y u) : x = y := Option.some.inj (r.abs.symm.trans q.abs)
theorem Vals.inj : ∀ {xs ys : List V} {us : List Value}, Vals xs us → Vals ys us → xs = ys
  | _, _, _, .nil, .nil => rfl
  | _, _, _, .cons r t, .cons r' t' => by rw [r.inj r', Vals.inj t t']
section
variable {X : Cx} {pins : List (Addr × Obj)} {σ : St} {H : Hp} {s : Shared} {a : Addr} {xs ys : List V}
theorem SqL.of {K : PySem.W.Frag} (h : H a = some (.lst xs)) : SqL K H a xs := .inl (.inl h)
theorem SqT.of {K : PySem.W.Frag} (h : H a = some (.tup xs)) : SqT K H a xs := .inl (.inl h)
theorem Inv.list (I : Inv X pins σ H s) (h : SqL X.K H a xs) : ∃ its : List Value, Vals xs its ∧ PlainL s.heap a its.toArray ∧ xs.length ≤ sizeLine := by
  rcases h with h | ⟨o, its, n, hk, hc, hd, hs, hz, r⟩
  · obtain ⟨z, its, n, r, e⟩ := h.ok I.hok
    exact ⟨its, r, ⟨_, n, e, rfl, rfl, rfl⟩, z⟩
  · refine ⟨its.toList, r, ⟨o, n, I.kIn a o hk, hc, hd, by simpa using hs⟩, ?_⟩
    have e := r.length
    simp only [Array.length_toList] at e
    omega
theorem Inv.tuple (I : Inv X pins σ H s) (h : SqT X.K H a xs) : ∃ its : List Value, Vals xs its ∧ IsTup s.heap a its.toArray ∧ xs.length ≤ sizeLine := by
  rcases h with h | ⟨o, its, n, hk, hc, hs, hz, r⟩
  · obtain ⟨z, its, r, p⟩ := h.ok I.hok
    exact ⟨its, r, p, z⟩
  · refine ⟨its.toList, r, ⟨o, I.kIn a o hk, hc, n, by simpa using hs⟩, ?_⟩
    have e := r.length
    simp only [Array.length_toList] at e
    omega
theorem Inv.list_inj (I : Inv X pins σ H s) (h : SqL X.K H a xs) (h' : SqL X.K H a ys) : xs = ys := by
  obtain ⟨its, r, ⟨o, n, e, _, _, d⟩, _⟩ := I.list h
  obtain ⟨its', r', ⟨o', n', e', _, _, d'⟩, _⟩ := I.list h'
  rw [e] at e'; cases e'
  rw [d] at d'
  injection d' with d1 _
  have : its = its' := by simpa using congrArg Array.toList d1
  subst this
  exact r.inj r'
end
abbrev Cx.wish (X : Cx) (E : Value → Shared → Prop) : Cx := { X with xe := E }
abbrev Cx.nox (X : Cx) : Cx := X.wish fun _ _ => False
theorem Cx.Ok.wish {X : Cx} (ok : X.Ok) (E : Value → Shared → Prop) : (X.wish E).Ok :=
  ⟨ok.mod, ok.kind, ok.glob, ok.blt, ok.above, ok.inj, ok.has, ok.cab, ok.hd, ok.frames, ok.stk, ok.exf, ok.bs, ok.bsz, ok.noex, ok.exfs, ok.funs, ok.frf⟩
theorem Cx.Ok.unwish {X : Cx} {E : Value → Shared → Prop} (ok : (X.wish E).Ok) : X.Ok :=
  ⟨ok.mod, ok.kind, ok.glob, ok.blt, ok.above, ok.inj, ok.has, ok.cab, ok.hd, ok.frames, ok.stk, ok.exf, ok.bs, ok.bsz, ok.noex, ok.exfs, ok.funs, ok.frf⟩
section
variable {X : Cx} {pins : List (Addr × Obj)} {σ : St} {H : Hp} {s : Shared} {E : Value → Shared → Prop}
theorem Inv.wish (I : Inv X pins σ H s) (E : Value → Shared → Prop) : Inv (X.wish E) pins σ H s := ⟨I.ok.wish E, I.os, I.bare, I.base, I.loc, I.cell, I.free, I.freeC, I.pin, I.hok, I.len⟩
theorem Inv.unwish (I : Inv (X.wish E) pins σ H s) : Inv X pins σ H s := ⟨I.ok.unwish, I.os, I.bare, I.base, I.loc, I.cell, I.free, I.freeC, I.pin, I.hok, I.len⟩
theorem SP.unwish {D : Ends} {f : Flow} {s' : Shared} (h : SP (X.wish E) pins D f s') : SP X pins D f s' := by
  cases f with
  | next => obtain ⟨σ', H', I, q⟩ := h; exact ⟨σ', H', I.unwish, q⟩
  | brk => obtain ⟨σ', H', I, q⟩ := h; exact ⟨σ', H', I.unwish, q⟩
  | cont => obtain ⟨σ', H', I, q⟩ := h; exact ⟨σ', H', I.unwish, q⟩
  | ret u => obtain ⟨v, σ', H', I, r, q⟩ := h; exact ⟨v, σ', H', I.unwish, r, q⟩
theorem PSs.nox {st : List Stmt} {t : TS} (h : PSs X.nox st t) : PSs X st t := fun pins s σ H D I hw =>
  wpAny_mono (h pins s σ H D (I.wish _) hw) (fun _ _ q => q.unwish) fun _ _ z => False.elim z
end
section
variable {X : Cx} {st : Stmt} {rest : List Stmt} {t u : TS} {e : Expr} {te : TE} {pos : Pos}
def tNext : TS := fun D σ H => D.nx σ H
def tSeq (t u : TS) : TS := fun D σ H => t { D with nx := u D } σ H
theorem pss_nil : PSs X [] tNext := fun _ _ σ H _ I h => wpAny_execs_nil ⟨σ, H, I, h⟩
theorem pss_cons (h1 : PS X st t) (h2 : PSs X rest u) : PSs X (st :: rest) (tSeq t u) := by
  intro pins s σ H D I h
  refine wpAny_execs_cons (thn (h1 pins s σ H { D with nx := u D } I h) fun f s1 q => ?_)
  cases f with
  | next =>
    obtain ⟨σ', H', I', q⟩ := q
    exact h2 pins s1 σ' H' D I' q
  | ret v => exact q
  | brk => exact q
  | cont => exact q
theorem pss_one (h1 : PS X st t) : PSs X [st] t := by
  intro pins s σ H D I h
  refine wpAny_execs_cons (thn (h1 pins s σ H D I h) fun f s1 q => ?_)
  cases f with
  | next => exact wpAny_execs_nil q
  | ret v => exact q
  | brk => exact q
  | cont => exact q
theorem Inv.quiet {pins : List (Addr × Obj)} {σ : St} {H : Hp} {s : Shared} (I : Inv X pins σ H s) : interactive X.env = false := by simp [interactive, I.ok.kind]
def tDrop (te : TE) : TS := fun D σ H => te σ H fun _ H1 => D.nx σ H1
theorem ps_expr (he : PE X e te) (hs : swapsWith e none pos.line X.env = pure false := by rfl) : PS X (.Expr e pos) (tDrop te) := by
  intro pins s σ H D I h
  exact wpAny_Expr_any (thn (he pins s σ H _ I h) fun v s1 ⟨x, H1, I1, r1, q1⟩ => ⟨σ, H1, I1, q1⟩) I.quiet hs
def tRet (te : TE) : TS := fun D σ H => te σ H D.rt
theorem ps_ret (he : PE X e te) : PS X (.Return (some e) pos) (tRet te) := by
  intro pins s σ H D I h
  exact wpAny_Return_some (thn (he pins s σ H _ I h) fun v s1 ⟨x, H1, I1, r1, q1⟩ => ⟨x, σ, H1, I1, r1, q1⟩)
def tIfS (c : TT) (t u : TS) : TS := fun D σ H => c σ H fun b H1 => if b = true then t D σ H1 else u D σ H1
theorem ps_if {c : Expr} {a b : List Stmt} {tc : TT} (hc : PT X c tc) (ha : PSs X a t) (hb : PSs X b u) : PS X (.If c a b pos) (tIfS tc t u) := by
  intro pins s σ H D I h
  refine wpAny_If (thn (hc pins s σ H _ I h) fun d s1 ⟨H1, I1, q1⟩ => ?_)
  cases d with
  | true => exact ha pins s1 σ H1 D I1 q1
  | false => exact hb pins s1 σ H1 D I1 q1
def tNever : TS := fun _ _ _ => False
theorem ps_never : PS X st tNever := fun _ _ _ _ _ _ h => h.elim
end
abbrev TG := V → St → Hp → (St → Hp → Prop) → Prop
abbrev TGs := List V → St → Hp → (St → Hp → Prop) → Prop
def PG (X : Cx) (target : Expr) (t : TG) : Prop :=
  ∀ (pins : List (Addr × Obj)) (s : Shared) (σ : St) (H : Hp) (v : V) (u : Value) (Q : St → Hp → Prop), Inv X pins σ H s → RelV v u → t v σ H Q →
    wpAny (model X.prog X.w) X.A (assign target X.env u) (fun _ s' => ∃ σ' H', Inv X pins σ' H' s' ∧ Q σ' H') X.xe s
def PGs (X : Cx) (ts : List Expr) (t : TGs) : Prop :=
  ∀ (pins : List (Addr × Obj)) (s : Shared) (σ : St) (H : Hp) (vs : List V) (us : List Value) (Q : St → Hp → Prop), Inv X pins σ H s → Vals vs us → t vs σ H Q →
    wpAny (model X.prog X.w) X.A (assignInOrder ((assignEach ts X.env).map (·.2)) us) (fun _ s' => ∃ σ' H', Inv X pins σ' H' s' ∧ Q σ' H') X.xe s
abbrev TSet := V → V → V → Hp → (Hp → Prop) → Prop
def PSet (X : Cx) (t : TSet) : Prop :=
  ∀ (pins : List (Addr × Obj)) (s : Shared) (σ : St) (H : Hp) (o i v : V) (ov iv u : Value) (Q : Hp → Prop), Inv X pins σ H s → RelV o ov → RelV i iv → RelV v u → t o i v H Q →
    wpAny (model X.prog X.w) X.A (setItem ov iv u) (fun _ s' => ∃ H', Inv X pins σ H' s' ∧ Q H') X.xe s
abbrev TIp := V → V → Hp → VK → Prop
def PIp (X : Cx) (op : Operator) (t : TIp) : Prop :=
  ∀ (pins : List (Addr × Obj)) (s : Shared) (σ : St) (H : Hp) (x y : V) (v u : Value) (Q : VK), Inv X pins σ H s → RelV x v → RelV y u → t x y H Q →
    wpAny (model X.prog X.w) X.A (inplaceOp op v u) (EP X pins σ Q) X.xe s
section
variable {X : Cx} {pos : Pos}
def gName (i : Nat) : TG := fun v σ H Q => Q (σ.set i (some v)) H
theorem pg_name {i : Nat} {x : Str} (hN : X.N.Nodup) (hi : X.N[i]? = some x) (hx : Loc X.env.scope x) (hf : X.fn x = true ∨ X.env.scope.names.lookup x = some .local := by first | exact .inl rfl | exact .inr rfl | assumption) : PG X (.Name x pos) (gName i) := by
  intro pins s σ H v u Q I r h
  exact wpAny_assign_Name (store_ok I hN hi hx r (fun s' I' => ⟨_, H, I', h⟩) hf)
def gNil : TGs := fun vs σ H Q => vs = [] ∧ Q σ H
def gCons (t : TG) (u : TGs) : TGs := fun vs σ H Q => ∃ v r, vs = v :: r ∧ t v σ H fun σ' H' => u r σ' H' Q
theorem pgs_nil : PGs X [] gNil := by
  intro pins s σ H vs us Q I r h
  obtain ⟨e, h⟩ := h
  subst e
  cases r
  exact assignInOrder_nil ⟨σ, H, I, h⟩
theorem pgs_cons {e : Expr} {es : List Expr} {t : TG} {u : TGs} (h1 : PG X e t) (h2 : PGs X es u)
    (hs : (assignEach (e :: es) X.env).map (·.2) = assign e X.env :: (assignEach es X.env).map (·.2) := by rfl) : PGs X (e :: es) (gCons t u) := by
  intro pins s σ H vs us Q I r h
  obtain ⟨v, vr, e1, h⟩ := h
  subst e1
  cases r with
  | cons r rr =>
    rw [hs]
    refine assignInOrder_cons (thn (h1 pins s σ H _ _ _ I r h) fun _ s1 ⟨σ1, H1, I1, q1⟩ => ?_)
    exact h2 pins s1 σ1 H1 _ _ Q I1 rr q1
def gTup (K : PySem.W.Frag) (n : Nat) (t : TGs) : TG := fun v σ H Q => ∃ a xs, v = .ref a ∧ SqT K H a xs ∧ xs.length = n ∧ t xs σ H Q
theorem pg_tup {es : List Expr} {k : Nat} {t : TGs} {n : Nat} (hc : X.calm = true) (h : PGs X es t)
    (hn : (assignEach es X.env).length = n := by rfl) (hst : (assignEach es X.env).findIdx? (·.1) = none := by rfl) : PG X (.Tuple es k pos) (gTup X.K n t) := by
  intro pins s σ H v u Q I r hw
  obtain ⟨a, xs, e1, hq, hl, hw⟩ := hw
  subst e1
  cases r
  obtain ⟨its, rv, ht, hz⟩ := I.tuple hq
  refine assign_Tuple_tuple (I.ok.hd hc) ht (by simp [hn, ← hl, rv.length]) hst fun h' hx => ?_
  have I1 : Inv X pins σ H { s with heap := h' } := I.kept (t' := s.toks) fun b o e => hx b o (Nat.ne_of_lt (Heap.lt_size e)) e
  exact h pins _ σ H xs _ Q I1 (by simpa using rv) hw
def gSub (to ti : TE) (t : TSet) : TG := fun v σ H Q => to σ H fun o H1 => ti σ H1 fun i H2 => t o i v H2 fun H3 => Q σ H3
theorem pg_sub {o i : Expr} {to ti : TE} {t : TSet} (ho : PE X o to) (hi : PE X i ti) (hs : PSet X t)
    (ha : ∀ v, assign (.Subscript o i pos) X.env v = (do
      let ov ← holding [v] (eval o X.env)
      let iv ← holding [v, ov] (eval i X.env)
      standAt pos
      holding [v, ov, iv] (setItem ov iv v)
      release [v, ov, iv] []) := by intro _; rfl) : PG X (.Subscript o i pos) (gSub to ti t) := by
  intro pins s σ H v u Q I r h
  rw [ha]
  refine wpAny_bind (wpAny_holding (thn (ho pins s σ H _ I h) fun ov s1 ⟨x, H1, I1, r1, q1⟩ => ?_))
  refine wpAny_bind (wpAny_holding (thn (hi pins s1 σ H1 _ I1 q1) fun iv s2 ⟨y, H2, I2, r2, q2⟩ => ?_))
  refine wpAny_bind (wpAny_standAt (wpAny_bind (wpAny_holding (thn (hs pins s2 σ H2 x y v ov iv u _ I2 r1 r2 r q2) fun _ s3 ⟨H3, I3, q3⟩ => ?_))))
  exact wpAny_release ⟨σ, H3, I3, q3⟩
def tAsg (te : TE) (g : TG) : TS := fun D σ H => te σ H fun x H1 => g x σ H1 D.nx
theorem ps_asg {tg e : Expr} {te : TE} {g : TG} (he : PE X e te) (hg : PG X tg g) (hs : swapsWithSole [tg] e pos.line X.env = pure false := by rfl) (hw : swappedStores [tg] e X.env = pure none := by rfl)
    (h1 : (assignEach [tg] X.env).map (·.2) = [assign tg X.env] := by rfl) : PS X (.Assign [tg] e pos) (tAsg te g) := by
  intro pins s σ H D I h
  refine wpAny_Assign_stores (thn (he pins s σ H _ I h) fun v s1 ⟨x, H1, I1, r1, q1⟩ => ?_) hs hw
  rw [h1]
  exact thn (hg pins s1 σ H1 x v _ I1 r1 q1) fun _ s2 q => q
theorem ps_set {i : Nat} {x : Str} {e : Expr} {te : TE} {pos' : Pos} (hN : X.N.Nodup) (hi : X.N[i]? = some x) (hx : Loc X.env.scope x) (he : PE X e te) (hs : swapsWith e (some (.Name x pos')) pos.line X.env = pure false := by rfl) (hf : X.fn x = true ∨ X.env.scope.names.lookup x = some .local := by first | exact .inl rfl | exact .inr rfl | assumption) :
    PS X (.Assign [.Name x pos'] e pos) (tAsg te (gName i)) := by
  intro pins s σ H D I h
  refine wpAny_Assign_Name (thn (he pins s σ H _ I h) fun v s1 ⟨y, H1, I1, r1, q1⟩ => ?_) hs
  exact store_ok I1 hN hi hx r1 (fun s2 I2 => ⟨_, H1, I2, q1⟩) hf
def tAug (i : Nat) (te : TE) (ti : TIp) : TS := fun D σ H => ∃ x, σ[i]? = some (some x) ∧ te σ H fun y H1 => ti x y H1 fun z H2 => D.nx (σ.set i (some z)) H2
theorem ps_aug {i : Nat} {x : Str} {e : Expr} {te : TE} {op : Operator} {ti : TIp} {pos' : Pos} (hN : X.N.Nodup) (hi : X.N[i]? = some x) (hx : Loc X.env.scope x) (he : PE X e te) (ho : PIp X op ti) (hf : X.fn x = true ∨ X.env.scope.names.lookup x = some .local := by first | exact .inl rfl | exact .inr rfl | assumption) :
    PS X (.AugAssign (.Name x pos') op e pos) (tAug i te ti) := by
  intro pins s σ H D I h
  obtain ⟨v, e1, h⟩ := h
  obtain ⟨m, hn, hl⟩ := I.loc
  have vis : Vis X.env.scope x := by rcases hx with k | k; exact .inl k; exact .inr (.inl k)
  obtain ⟨u, r, l⟩ := hl i x v hi e1 vis
  refine wpAny_AugAssign_Name ?_
  have go : wpAny (model X.prog X.w) X.A (eval e X.env) (fun w s₂ => wpAny (model X.prog X.w) X.A (inplaceOp op u w) (fun r s₃ => wpAny (model X.prog X.w) X.A (storeName X.env x r) (fun _ => SP X pins D .next) X.xe s₃) X.xe s₂) X.xe s := by
    refine thn (he pins s σ H _ I h) fun w s1 ⟨y, H1, I1, r1, q1⟩ => ?_
    refine thn (ho pins s1 σ H1 v y u w _ I1 r r1 q1) fun z s2 ⟨zv, H2, I2, r2, q2⟩ => ?_
    exact store_ok I2 hN hi hx r2 (fun s3 I3 => ⟨_, H2, I3, q2⟩) hf
  rcases l with ⟨hk, hm⟩ | ⟨hk, c, hc, hcell⟩
  · exact wpAny_loadName_local I.ok.kind hk hn hm go
  · rcases hk with hk | hk
    · exact wpAny_loadName_cell I.ok.kind hk hc hcell go
    · rcases hx with k | k
      · have : X.env.scope.names.lookup x = some .free := hk
        rw [k] at this; cases this
      · have : X.env.scope.names.lookup x = some .free := hk
        rw [k] at this; cases this
def tAugS (to ti te : TE) (tget : V → V → Hp → VK → Prop) (tip : TIp) (tset : TSet) : TS := fun D σ H => to σ H fun o H1 => ti σ H1 fun i H2 => tget o i H2 fun x H3 => te σ H3 fun y H4 => tip x y H4 fun z H5 => tset o i z H5 fun H6 => D.nx σ H6
def PGet (X : Cx) (t : V → V → Hp → VK → Prop) : Prop :=
  ∀ (pins : List (Addr × Obj)) (s : Shared) (σ : St) (H : Hp) (o i : V) (ov iv : Value) (Q : VK), Inv X pins σ H s → RelV o ov → RelV i iv → t o i H Q →
    wpAny (model X.prog X.w) X.A (getItem ov iv) (EP X pins σ Q) X.xe s
theorem ps_augS {o i e : Expr} {to ti te : TE} {tget : V → V → Hp → VK → Prop} {tip : TIp} {tset : TSet} {op : Operator} {tpos : Pos} (ho : PE X o to) (hi : PE X i ti) (hg : PGet X tget) (he : PE X e te) (hp : PIp X op tip) (hs : PSet X tset)
    (ha : ∀ ov iv new, augStore i ov iv new = (do holding [new, ov, iv] (setItem ov iv new); release [new, ov, iv] []; pure .next) := by intros; rfl) : PS X (.AugAssign (.Subscript o i tpos) op e pos) (tAugS to ti te tget tip tset) := by
  intro pins s σ H D I h
  refine wpAny_AugAssign_SubscriptAny (thn (ho pins s σ H _ I h) fun ov s1 ⟨x1, H1, I1, r1, q1⟩ => ?_) ha
  refine thn (hi pins s1 σ H1 _ I1 q1) fun iv s2 ⟨x2, H2, I2, r2, q2⟩ => ?_
  refine thn (hg pins s2 σ H2 x1 x2 ov iv _ I2 r1 r2 q2) fun old s3 ⟨x3, H3, I3, r3, q3⟩ => ?_
  refine thn (he pins s3 σ H3 _ I3 q3) fun v s4 ⟨x4, H4, I4, r4, q4⟩ => ?_
  refine thn (hp pins s4 σ H4 x3 x4 old v _ I4 r3 r4 q4) fun new s5 ⟨x5, H5, I5, r5, q5⟩ => ?_
  exact thn (hs pins s5 σ H5 x1 x2 x5 ov iv new _ I5 r1 r2 r5 q5) fun _ s6 ⟨H6, I6, q6⟩ => ⟨σ, H6, I6, q6⟩
def ipI (f : Int → Int → Int) : TIp := fun x y H Q => ∃ i j, x = .int i ∧ y = .int j ∧ Q (.int (f i j)) H
theorem ip_add : PIp X .Add (ipI fun i j => i + j) := by
  intro pins s σ H x y v u Q I r1 r2 h
  obtain ⟨i, j, e1, e2, q⟩ := h
  subst e1; subst e2
  obtain ⟨t, rfl⟩ := r1
  obtain ⟨t', rfl⟩ := r2
  exact iadd_int ⟨.int _, H, I.tok _, ⟨_, rfl⟩, q⟩
theorem ip_sub : PIp X .Sub (ipI fun i j => i - j) := by
  intro pins s σ H x y v u Q I r1 r2 h
  obtain ⟨i, j, e1, e2, q⟩ := h
  subst e1; subst e2
  obtain ⟨t, rfl⟩ := r1
  obtain ⟨t', rfl⟩ := r2
  exact isub_int ⟨.int _, H, I.tok _, ⟨_, rfl⟩, q⟩
end
section
variable {X : Cx} {pos : Pos}
def tWhile (c : TT) (tb : TS) : TS := fun D σ H => ∃ W : Nat → St → Hp → Prop, (∃ m, W m σ H) ∧ ∀ m σ H, W m σ H →
  c σ H fun b H1 => if b = true then ∃ N : St → Hp → Prop, (∀ σ' H', N σ' H' → ∃ m', m' < m ∧ W m' σ' H') ∧ tb { D with nx := N, ct := N, bk := D.nx } σ H1 else D.nx σ H1
theorem ps_while {c : Expr} {body : List Stmt} {tc : TT} {tb : TS} (hp : PassesOwn (model X.prog X.w) X.A X.env X.xe) (hc : PT X c tc) (hb : PSs X body tb) : PS X (.While c body [] pos) (tWhile tc tb) := by
  intro pins s σ H D I h
  obtain ⟨W, ⟨m0, w0⟩, turn⟩ := h
  refine wpAny_While (codeAny_whileLoop (fun n s' => ∃ σ' H', Inv X pins σ' H' s' ∧ W n σ' H') ?_ m0 ⟨σ, H, I, w0⟩)
  rintro n s1 ⟨σ1, H1, I1, w1⟩
  refine wpAny_passesOwn hp (thn (hc pins s1 σ1 H1 _ I1 (turn n σ1 H1 w1)) fun b s2 ⟨H2, I2, q2⟩ => ?_)
  cases b with
  | true =>
    obtain ⟨N, hN, q2⟩ := q2
    rw [if_pos rfl]
    refine wpAny_passesOwn hp (thn (hb pins s2 σ1 H2 _ I2 q2) fun f s3 q3 => ?_)
    cases f with
    | next =>
      obtain ⟨σ3, H3, I3, n3⟩ := q3
      obtain ⟨m', hm, w3⟩ := hN σ3 H3 n3
      exact ⟨m', hm, σ3, H3, I3, w3⟩
    | cont =>
      obtain ⟨σ3, H3, I3, n3⟩ := q3
      obtain ⟨m', hm, w3⟩ := hN σ3 H3 n3
      exact ⟨m', hm, σ3, H3, I3, w3⟩
    | brk => exact q3
    | ret v => exact q3
  | false =>
    rw [if_neg Bool.false_ne_true]
    exact wpAny_execs_nil ⟨σ1, H2, I2, q2⟩
end
structure It where
  go : Nat → Hp → Prop
  yld : Nat → Hp → V → Hp → Prop
  stop : Nat → Hp → Prop
def FpOk (X : Cx) (pins : List (Addr × Obj)) (H : Hp) (b : Addr) : Prop :=
  H b = none ∧ b ≠ X.env.locals ∧ b ∉ X.fs ∧ (b ∈ X.ex ∨ X.s₀.heap.objs.size ≤ b) ∧ (∀ x c, X.env.cells.lookup x = some c → c ≠ b) ∧ ∀ p ∈ X.pn ++ pins, p.1 ≠ b
theorem Inv.fpOk {X : Cx} {pins : List (Addr × Obj)} {σ : St} {H H' : Hp} {s : Shared} {b : Addr} (I : Inv X pins σ H s) (hb : s.heap.objs.size ≤ b) (hn : H' b = none) : FpOk X pins H' b := by
  refine ⟨hn, Nat.ne_of_gt (Nat.lt_of_lt_of_le I.lt hb), I.nofs hb, .inr (Nat.le_trans I.sz hb), fun x c e z => ?_, fun p hp z => ?_⟩
  · obtain ⟨v, q⟩ := I.cell x c e
    exact absurd (Nat.lt_of_lt_of_le q.lt (by rw [z]; exact hb)) (Nat.lt_irrefl _)
  · exact absurd (Nat.lt_of_lt_of_le (Heap.lt_size (I.pin p hp).1) (by rw [z]; exact hb)) (Nat.lt_irrefl _)
structure Turn (P : Program) (w : World) (K : PySem.W.Frag) (tg : Expr) (J : It) (fp : List Addr) (it : Addr) (tn : Nat → Heap → Prop) : Prop where
  mem : it ∈ fp
  obj : ∀ i h, tn i h → ∀ b ∈ fp, ∃ o, h.get? b = some o ∧ ∀ v, o.data ≠ .cell v
  keep : ∀ i h h', tn i h → (∀ b ∈ fp, ∀ o, h.get? b = some o → h'.get? b = some o) → tn i h'
  item : ∀ (X : Cx), X.prog = P → X.w = w → X.K = K → X.calm = true → ∀ (i : Nat) (pins : List (Addr × Obj)) (s : Shared) (σ : St) (H : Hp) (E : Value → Shared → Prop), Inv X pins σ H s → (∀ b ∈ fp, FpOk X pins H b) → tn i s.heap → J.go i H →
    wpAny (model P w) X.A (pyNext (.ref it)) (fun r s1 => ∃ u, r = some u ∧
      wpAny (model P w) X.A (letOwnedTupleGo tg (.ref it) u) (fun _ s2 => ∃ x H', Inv X pins σ H' s2 ∧ RelV x u ∧ J.yld i H x H' ∧ tn (i + 1) s2.heap ∧ ∀ b ∈ fp, H' b = none) E s1) E s
  done : ∀ (X : Cx), X.prog = P → X.w = w → X.K = K → X.calm = true → ∀ (i : Nat) (pins : List (Addr × Obj)) (s : Shared) (σ : St) (H : Hp) (E : Value → Shared → Prop), Inv X pins σ H s → (∀ b ∈ fp, FpOk X pins H b) → tn i s.heap → J.stop i H →
    wpAny (model P w) X.A (pyNext (.ref it)) (fun r s1 => r = none ∧ Inv X pins σ H s1) E s
  self : ∀ (A : Around) (i : Nat) (s : Shared) (Q : Value → Shared → Prop) (E : Value → Shared → Prop), tn i s.heap → Q (.ref it) s → wpAny (model P w) A (pyIter (.ref it)) Q E s
abbrev TI := St → Hp → (It → Hp → Prop) → Prop
def PIE (X : Cx) (pins : List (Addr × Obj)) (σ : St) (tg : Expr) (R : It → Hp → Prop) (itv : Value) (s2 : Shared) : Prop :=
  ∃ (it : Addr) (fp : List Addr) (tn : Nat → Heap → Prop) (J : It) (H' : Hp), itv = .ref it ∧ Inv X pins σ H' s2 ∧ Turn X.prog X.w X.K tg J fp it tn ∧ tn 0 s2.heap ∧ (∀ b ∈ fp, FpOk X pins H' b) ∧ R J H'
def PI (X : Cx) (tg iter : Expr) (wi : TI) : Prop :=
  ∀ (pins : List (Addr × Obj)) (s : Shared) (σ : St) (H : Hp) (R : It → Hp → Prop), Inv X pins σ H s → wi σ H R →
    wpAny (model X.prog X.w) X.A (eval iter X.env) (fun v s1 => wpAny (model X.prog X.w) X.A (pyIter v) (PIE X pins σ tg R) X.xe s1) X.xe s
theorem go_of {M : Model} {A : Around} {E : Value → Shared → Prop} {s : Shared} {tg : Expr} {it : Addr} {u : Value} {o : Obj} {n : String} {vs : Array Value} {Q : Unit → Shared → Prop} (ho : s.heap.get? it = some o) (hc : o.cls = .type n) (hd : o.data = .fields vs)
    (hn : ["enumerate", "zip", "dict_itemiterator", "dict_reverseitemiterator", "odict_iterator", "itertools.zip_longest", "itertools.pairwise"].contains n = false) (hQ : Q () s) : wpAny M A (letOwnedTupleGo tg (.ref it) u) Q E s := by
  unfold letOwnedTupleGo
  cases tg <;> first
    | exact wpAny_pure hQ
    | (cases u <;> first
        | exact wpAny_pure hQ
        | (refine wpAny_bind (wpAny_load ho ?_)
           rw [hc, hd]
           show wpAny M A (if (["enumerate", "zip", "dict_itemiterator", "dict_reverseitemiterator", "odict_iterator", "itertools.zip_longest", "itertools.pairwise"].contains n && vs[0]? == some (rawInt _)) = true then _ else _) Q E s
           rw [if_neg (by intro h; rw [hn, Bool.false_and] at h; cases h)]
           exact wpAny_pure hQ))
def Itl (K : PySem.W.Frag) (a : Addr) : It :=
  ⟨fun i H => ∃ xs x, SqL K H a xs ∧ xs[i]? = some x, fun i H x H' => H' = H ∧ ∀ xs, SqL K H a xs → xs[i]? = some x, fun i H => ∃ xs, SqL K H a xs ∧ xs.length ≤ i⟩
def Itr (lo : Int) (n : Nat) : It := ⟨fun i _ => i < n, fun i H x H' => H' = H ∧ x = .int (lo + i), fun i _ => n ≤ i⟩
theorem turn_list {P : Program} {w : World} {K : PySem.W.Frag} {tg : Expr} (a it : Addr) : Turn P w K tg (Itl K a) [it] it (fun i h => h.IsListIter it a i) where
  mem := by simp
  obj := fun i h st b hb => by
    have e : b = it := by simpa using hb
    subst e
    obtain ⟨o, e, c, d⟩ := st
    exact ⟨o, e, fun v z => by rw [d] at z; cases z⟩
  keep := fun i h h' st k => st.at fun o e => k it (by simp) o e
  item := by
    intro X hP hw hK hc i pins s σ H E I hf st hg
    subst hP hw hK
    obtain ⟨xs, x, hq, hx⟩ := hg
    obtain ⟨its, rv, p, hz⟩ := I.list hq
    obtain ⟨u, hu, ru⟩ := rv.get hx
    obtain ⟨f0, f1, f2, f3, f4, f5⟩ := hf it (by simp)
    refine wpAny_pyNext_list_item st p.isList (x := u) (by simpa using hu) fun h' st' sb => ?_
    have I1 : Inv X pins σ H { s with heap := h' } := I.turned (t' := s.toks) (fun b o hb e => (sb.2 b hb).trans e) f0 f1 f3 f4 f5
    obtain ⟨o, e, c, d⟩ := id st'
    exact ⟨u, rfl, go_of (s := { s with heap := h' }) e c d (by decide) ⟨x, H, I1, ru, ⟨rfl, fun ys hy => by rw [I.list_inj hy hq]; exact hx⟩, st', fun b hb => (hf b hb).1⟩⟩
  done := by
    intro X hP hw hK hc i pins s σ H E I hf st hg
    subst hP hw hK
    obtain ⟨xs, hq, hx⟩ := hg
    obtain ⟨its, rv, p, hz⟩ := I.list hq
    obtain ⟨f0, f1, f2, f3, f4, f5⟩ := hf it (by simp)
    have hl := rv.length
    exact wpAny_pyNext_list_end (I.ok.hd hc) st p.isList (by simp; omega) fun h' eb => ⟨rfl, I.turned (t' := s.toks) (fun b o hb e => eb b o hb e) f0 f1 f3 f4 f5⟩
  self := fun _ _ _ _ _ st h => wpAny_pyIter_listiter st h
theorem turn_range {P : Program} {w : World} {K : PySem.W.Frag} {tg : Expr} (it : Addr) (lo : Int) (n : Nat) : Turn P w K tg (Itr lo n) [it] it (fun i h => IsRangeIter h it (lo + (i : Nat) * 1) ((n : Int) - (i : Nat)) 1) where
  mem := by simp
  obj := fun i h st b hb => by
    have e : b = it := by simpa using hb
    subst e
    exact ⟨_, st, fun v z => by
      have z' : Data.fields _ = Data.cell v := z
      cases z'⟩
  keep := fun i h h' st k => k it (by simp) _ st
  item := by
    intro X hP hw hK hc i pins s σ H E I hf st hg
    subst hP hw hK
    obtain ⟨f0, f1, f2, f3, f4, f5⟩ := hf it (by simp)
    have W := Walks.range (prog := X.prog) (w := X.w) (I.ok.hd hc) it lo 1 n
    refine W.item i s _ _ hg st fun v h' tk hv st' kk => ?_
    obtain ⟨t, rfl⟩ := hv
    have I1 : Inv X pins σ H { s with heap := h', toks := tk } := I.turned (fun b o hb e => kk b o (by simpa using hb) e) f0 f1 f3 f4 f5
    refine ⟨_, rfl, go_of (s := { s with heap := h', toks := tk }) (n := "range_iterator") st' rfl rfl (by decide) ⟨.int (lo + i), H, I1, ⟨t, ?_⟩, ⟨rfl, rfl⟩, st', fun b hb => (hf b hb).1⟩⟩
    rw [Int.mul_one]
  done := by
    intro X hP hw hK hc i pins s σ H E I hf st hg
    subst hP hw hK
    obtain ⟨f0, f1, f2, f3, f4, f5⟩ := hf it (by simp)
    exact wpAny_pyNext_range_end (I.ok.hd hc) st (by have : n ≤ i := hg; omega) fun h' eb => ⟨rfl, I.turned (t' := s.toks) (fun b o hb e => eb b o hb e) f0 f1 f3 f4 f5⟩
  self := fun _ _ _ _ _ st h => wpAny_pyIter_rangeiter st h
end L2
namespace L2
open PySem PySem.Spec PyProof.Rows
section
variable {X : Cx} {tg : Expr}
def iList (K : PySem.W.Frag) (tl : TE) : TI := fun σ H R => tl σ H fun x H1 => ∃ a, x = .ref a ∧ (∃ xs, SqL K H1 a xs) ∧ R (Itl K a) H1
theorem pi_list {l : Expr} {tl : TE} (hl : PE X l tl) : PI X tg l (iList X.K tl) := by
  intro pins s σ H R I h
  refine thn (hl pins s σ H _ I h) fun v s1 ⟨x, H1, I1, r1, q1⟩ => ?_
  obtain ⟨a, e, ⟨xs, hq⟩, q⟩ := q1
  subst e
  cases r1
  obtain ⟨its, rv, p, hz⟩ := I1.list hq
  refine wpAny_pyIter_list p.isList ?_
  refine ⟨s1.heap.objs.size, [s1.heap.objs.size], _, _, H1, rfl, I1.kept (t' := s1.toks) fun b o e => Heap.get?_push_of_some _ e, turn_list a _, ⟨_, Heap.get?_push_size _ rfl, rfl, rfl⟩, fun b hb => ?_, q⟩
  have e : b = s1.heap.objs.size := by simpa using hb
  subst e
  exact I1.fpOk (Nat.le_refl _) (I1.hok.fresh (Nat.le_refl _))
theorem range_it {pins : List (Addr × Obj)} {σ : St} {H : Hp} {s : Shared} {R : It → Hp → Prop} {E : Value → Shared → Prop} {lo hi : Int} {t u v : Tok} {tk : Nat} (I : Inv X pins σ H s) (h1 : -(2 ^ 62) ≤ lo) (h2 : lo < 2 ^ 62) (h3 : -(2 ^ 62) ≤ hi) (h4 : hi < 2 ^ 62)
    (q : R (Itr lo (hi - lo).toNat) H) : wpAny (model X.prog X.w) X.A (pyIter (.ref s.heap.objs.size)) (PIE X pins σ tg R) E { s with heap := s.heap.push { cls := .type "range", data := .fields #[.int lo t, .int hi u, .int 1 v] }, toks := tk } := by
  refine wpAny_pyIter_range (IsRange.new ..) (small_one h1 h2 h3 h4) ?_
  have I1 : Inv X pins σ H { s with heap := s.heap.push { cls := .type "range", data := .fields #[.int lo t, .int hi u, .int 1 v] }, toks := tk } := I.kept fun b o e => Heap.get?_push_of_some _ e
  refine ⟨(s.heap.push { cls := .type "range", data := .fields #[.int lo t, .int hi u, .int 1 v] }).objs.size, [(s.heap.push { cls := .type "range", data := .fields #[.int lo t, .int hi u, .int 1 v] }).objs.size], _, _, H, rfl,
    I1.kept (t' := tk) fun b o e => Heap.get?_push_of_some _ e, turn_range _ lo (hi - lo).toNat, ?_, fun b hb => ?_, q⟩
  · have e1 : lo + ((0 : Nat) : Int) * 1 = lo := by simp
    have e2 : (((hi - lo).toNat : Nat) : Int) - ((0 : Nat) : Int) = Builtin.Range.rangeSize lo hi 1 := by rw [rangeSize_one]; split <;> omega
    show IsRangeIter _ _ (lo + ((0 : Nat) : Int) * 1) ((((hi - lo).toNat : Nat) : Int) - ((0 : Nat) : Int)) 1
    rw [e1, e2]
    exact Heap.get?_push_size _ rfl
  · have e : b = (s.heap.push { cls := .type "range", data := .fields #[.int lo t, .int hi u, .int 1 v] }).objs.size := by simpa using hb
    subst e
    exact I1.fpOk (Nat.le_refl _) (I1.hok.fresh (Nat.le_refl _))
def iRng1 (ta : TA) : TI := fun σ H R => ta σ H fun vs H1 => ∃ j : Int, vs = [.int j] ∧ -(2 ^ 62) ≤ j ∧ j < 2 ^ 62 ∧ R (Itr 0 j.toNat) H1
theorem pi_range1 {a : Expr} {ta : TA} {p pos : Pos} (hg : Gl X "range") (hm : X.mg "range" = none) (ha : PA X [a] ta) (hs : starEach [a] X.env = [(false, eval a X.env)] := by rfl) : PI X tg (.Call (.Name "range" p) [a] [] pos) (iRng1 ta) := by
  intro pins s σ H R I h
  refine Call_ (ld_blt I hg hm boot_range (PyProof.Rows.callWith_type1 (thn (ha pos pins s σ H _ I h) fun us s1 ⟨vs, H1, I1, r1, q1⟩ => ?_) hs rfl))
  obtain ⟨j, e, q1, q2, q⟩ := q1
  subst e
  cases r1 with
  | cons r rr =>
    cases rr
    obtain ⟨t, rfl⟩ := r
    exact call_range_1 (range_it I1 (by omega) (by omega) q1 q2 (by simpa using q))
def tFor (wi : TI) (g : TG) (tb : TS) : TS := fun D σ H => wi σ H fun J H1 => ∃ W : Nat → Nat → St → Hp → Prop, (∃ m, W 0 m σ H1) ∧ ∀ i m σ H, W i m σ H →
  (J.stop i H ∧ D.nx σ H) ∨ (J.go i H ∧ ∃ N : St → Hp → Prop, (∀ σ' H', N σ' H' → ∃ m', m' < m ∧ W (i + 1) m' σ' H') ∧ ∀ x H', J.yld i H x H' → g x σ H' fun σ2 H2 => tb { D with nx := N, ct := N, bk := D.nx } σ2 H2)
def pinsAt (fp : List Addr) (h : Heap) : List (Addr × Obj) := fp.filterMap fun b => (h.get? b).map fun o => (b, o)
theorem mem_pinsAt {fp : List Addr} {h : Heap} {b : Addr} {o : Obj} (hb : b ∈ fp) (e : h.get? b = some o) : (b, o) ∈ pinsAt fp h := List.mem_filterMap.mpr ⟨b, hb, by rw [e]; rfl⟩
theorem of_pinsAt {fp : List Addr} {h : Heap} {p : Addr × Obj} (hp : p ∈ pinsAt fp h) : p.1 ∈ fp ∧ h.get? p.1 = some p.2 := by
  obtain ⟨b, hb, e⟩ := List.mem_filterMap.mp hp
  cases q : h.get? b with
  | none => rw [q] at e; cases e
  | some o =>
    rw [q] at e
    have e' : (b, o) = p := Option.some.inj e
    subst e'
    exact ⟨hb, q⟩
theorem Inv.pinned {pins : List (Addr × Obj)} {σ : St} {H : Hp} {s : Shared} {fp : List Addr} (I : Inv X pins σ H s) (hf : ∀ b ∈ fp, FpOk X pins H b) (ho : ∀ b ∈ fp, ∃ o, s.heap.get? b = some o ∧ ∀ v, o.data ≠ .cell v) : Inv X (pins ++ pinsAt fp s.heap) σ H s :=
  I.pins_of fun p hp => (List.mem_append.mp hp).elim (fun z => I.pin p (List.mem_append_right _ z)) fun z => by
    obtain ⟨hb, e⟩ := of_pinsAt z
    obtain ⟨f0, f1, f2, _⟩ := hf p.1 hb
    obtain ⟨o, e', d⟩ := ho p.1 hb
    rw [e] at e'; cases e'
    exact ⟨e, f0, f1, f2, d⟩
theorem Inv.unpinned {pins pl : List (Addr × Obj)} {σ : St} {H : Hp} {s : Shared} (I : Inv X (pins ++ pl) σ H s) : Inv X pins σ H s := I.pins_of fun p hp => I.pin p (List.mem_append_right _ (List.mem_append_left _ hp))
theorem ps_for {iter : Expr} {body : List Stmt} {wi : TI} {g : TG} {tb : TS} {pos : Pos} (hp : PassesOwn (model X.prog X.w) X.A X.env X.xe) (hc : X.calm = true) (hi : PI X tg iter wi) (hg : PG X tg g) (hb : PSs X body tb)
    (hs : ∀ x, foldedSetIterable iter X.env x = pure x := by intro _; rfl) : PS X (.For tg iter body [] pos) (tFor wi g tb) := by
  intro pins s σ H D I h
  refine wpAny_For (thn (hi pins s σ H _ I h) fun v s1 h1 => thn h1 fun itv s2 h2 => ?_) hs
  obtain ⟨it, fp, tn, J, H2, e, I2, T, st2, f2, W, ⟨m0, w0⟩, turn⟩ := h2
  subst e
  have stat : ∀ {H' : Hp}, (∀ b ∈ fp, H' b = none) → ∀ b ∈ fp, FpOk X pins H' b := fun hn b hb => ⟨hn b hb, (f2 b hb).2⟩
  refine codeAny_forLoop_any (fun n s' => ∃ i σ' H', Inv X pins σ' H' s' ∧ tn i s'.heap ∧ (∀ b ∈ fp, H' b = none) ∧ W i n σ' H') ?_ m0 ⟨0, σ, H2, I2, st2, fun b hb => (f2 b hb).1, w0⟩
  rintro n s3 ⟨i, σ3, H3, I3, st3, fr3, w3⟩
  rcases turn i n σ3 H3 w3 with ⟨stop, qn⟩ | ⟨go, N, hN, step⟩
  · refine wpAny_passesOwn hp (thn (T.done X rfl rfl rfl hc i pins s3 σ3 H3 X.xe I3 (stat fr3) st3 stop) fun r s4 ⟨hr, I4⟩ => ?_)
    subst hr
    exact wpAny_execs_nil ⟨σ3, H3, I4, qn⟩
  · refine wpAny_passesOwn hp (thn (T.item X rfl rfl rfl hc i pins s3 σ3 H3 X.xe I3 (stat fr3) st3 go) fun r s4 ⟨u, hr, h4⟩ => ?_)
    subst hr
    refine wpAny_passesOwn hp (thn h4 fun _ s5 ⟨x, H5, I5, r5, y5, st5, fr5⟩ => ?_)
    have I5' := I5.pinned (stat fr5) (T.obj _ _ st5)
    refine wpAny_passesOwn hp (thn (hg _ s5 σ3 H5 x u _ I5' r5 (step x H5 y5)) fun _ s6 ⟨σ6, H6, I6, q6⟩ => ?_)
    refine wpAny_passesOwn hp (thn (hb _ s6 σ6 H6 _ I6 q6) fun f s7 q7 => ?_)
    have again : ∀ {σ7 : St} {H7 : Hp}, Inv X (pins ++ pinsAt fp s5.heap) σ7 H7 s7 → N σ7 H7 → ∃ m, m < n ∧ ∃ i σ' H', Inv X pins σ' H' s7 ∧ tn i s7.heap ∧ (∀ b ∈ fp, H' b = none) ∧ W i m σ' H' := fun {σ7 H7} I7 n7 => by
      obtain ⟨m', hm, w7⟩ := hN σ7 H7 n7
      refine ⟨m', hm, i + 1, σ7, H7, I7.unpinned, T.keep _ _ _ st5 fun b hb o e => (I7.pin (b, o) (List.mem_append_right _ (List.mem_append_right _ (mem_pinsAt hb e)))).1, fun b hb => ?_, w7⟩
      obtain ⟨o, e, d⟩ := T.obj _ _ st5 b hb
      exact (I7.pin (b, o) (List.mem_append_right _ (List.mem_append_right _ (mem_pinsAt hb e)))).2.1
    cases f with
    | next => obtain ⟨σ7, H7, I7, n7⟩ := q7; exact again I7 n7
    | cont => obtain ⟨σ7, H7, I7, n7⟩ := q7; exact again I7 n7
    | brk => obtain ⟨σ7, H7, I7, q7⟩ := q7; exact ⟨σ7, H7, I7.unpinned, q7⟩
    | ret v => obtain ⟨x7, σ7, H7, I7, r7, q7⟩ := q7; exact ⟨x7, σ7, H7, I7.unpinned, r7, q7⟩
end
theorem for_list {K : PySem.W.Frag} {a : Addr} {xs : List V} {g : TG} {tb : TS} {D : Ends} {σ : St} {H : Hp} (Pv : Nat → St → Hp → Prop) (h0 : Pv 0 σ H) (hl : ∀ i σ H, i ≤ xs.length → Pv i σ H → SqL K H a xs)
    (hs : ∀ i x σ H, xs[i]? = some x → Pv i σ H → g x σ H fun σ2 H2 => tb { D with nx := Pv (i + 1), ct := Pv (i + 1), bk := D.nx } σ2 H2) (hd : ∀ σ H, Pv xs.length σ H → D.nx σ H) :
    ∃ W : Nat → Nat → St → Hp → Prop, (∃ m, W 0 m σ H) ∧ ∀ i m σ H, W i m σ H →
      ((Itl K a).stop i H ∧ D.nx σ H) ∨ ((Itl K a).go i H ∧ ∃ N : St → Hp → Prop, (∀ σ' H', N σ' H' → ∃ m', m' < m ∧ W (i + 1) m' σ' H') ∧ ∀ x H', (Itl K a).yld i H x H' → g x σ H' fun σ2 H2 => tb { D with nx := N, ct := N, bk := D.nx } σ2 H2) := by
  refine ⟨fun i m σ H => m = xs.length - i ∧ i ≤ xs.length ∧ Pv i σ H, ⟨xs.length, by simp, Nat.zero_le _, h0⟩, ?_⟩
  rintro i m σ H ⟨rfl, hi, p⟩
  have q := hl i σ H hi p
  by_cases hlt : i < xs.length
  · refine .inr ⟨⟨xs, xs[i], q, by simp [hlt]⟩, Pv (i + 1), fun σ' H' p' => ⟨xs.length - (i + 1), by omega, rfl, hlt, p'⟩, fun x H' y => ?_⟩
    obtain ⟨e, y⟩ := y
    subst e
    exact hs i x σ _ (y xs q) p
  · have e : i = xs.length := by omega
    subst e
    exact .inl ⟨⟨xs, q, Nat.le_refl _⟩, hd σ H p⟩
theorem for_range {lo : Int} {n : Nat} {g : TG} {tb : TS} {D : Ends} {σ : St} {H : Hp} (Pv : Nat → St → Hp → Prop) (h0 : Pv 0 σ H)
    (hs : ∀ i σ H, i < n → Pv i σ H → g (.int (lo + i)) σ H fun σ2 H2 => tb { D with nx := Pv (i + 1), ct := Pv (i + 1), bk := D.nx } σ2 H2) (hd : ∀ σ H, Pv n σ H → D.nx σ H) :
    ∃ W : Nat → Nat → St → Hp → Prop, (∃ m, W 0 m σ H) ∧ ∀ i m σ H, W i m σ H →
      ((Itr lo n).stop i H ∧ D.nx σ H) ∨ ((Itr lo n).go i H ∧ ∃ N : St → Hp → Prop, (∀ σ' H', N σ' H' → ∃ m', m' < m ∧ W (i + 1) m' σ' H') ∧ ∀ x H', (Itr lo n).yld i H x H' → g x σ H' fun σ2 H2 => tb { D with nx := N, ct := N, bk := D.nx } σ2 H2) := by
  refine ⟨fun i m σ H => m = n - i ∧ i ≤ n ∧ Pv i σ H, ⟨n, by simp, Nat.zero_le _, h0⟩, ?_⟩
  rintro i m σ H ⟨rfl, hi, p⟩
  by_cases hlt : i < n
  · refine .inr ⟨hlt, Pv (i + 1), fun σ' H' p' => ⟨n - (i + 1), by omega, rfl, hlt, p'⟩, fun x H' y => ?_⟩
    obtain ⟨e, y⟩ := y
    subst e y
    exact hs i σ _ hlt p
  · have e : i = n := by omega
    subst e
    exact .inl ⟨Nat.le_refl _, hd σ H p⟩
end L2
namespace L2
open PySem PySem.Spec PyProof.Rows
abbrev R2 := V → V → Hp → VK → Prop
def OpR (X : Cx) (f : Value → Value → Sem Value) (r : R2) : Prop :=
  ∀ (pins : List (Addr × Obj)) (s : Shared) (σ : St) (H : Hp) (x y : V) (v u : Value) (Q : VK), Inv X pins σ H s → RelV x v → RelV y u → r x y H Q →
    wpAny (model X.prog X.w) X.A (f v u) (EP X pins σ Q) X.xe s
def UnR (X : Cx) (f : Value → Sem Value) (r : V → Hp → VK → Prop) : Prop :=
  ∀ (pins : List (Addr × Obj)) (s : Shared) (σ : St) (H : Hp) (x : V) (v : Value) (Q : VK), Inv X pins σ H s → RelV x v → r x H Q →
    wpAny (model X.prog X.w) X.A (f v) (EP X pins σ Q) X.xe s
def CallR (X : Cx) (f : Value) (r : List V → Hp → VK → Prop) : Prop :=
  ∀ (pins : List (Addr × Obj)) (s : Shared) (σ : St) (H : Hp) (xs : List V) (us : List Value) (Q : VK), Inv X pins σ H s → Vals xs us → r xs H Q →
    wpAny (model X.prog X.w) X.A (call f us) (EP X pins σ Q) X.xe s
def tOp (r : R2) (ta tb : TE) : TE := fun σ H Q => ta σ H fun x H1 => tb σ H1 fun y H2 => r x y H2 Q
def tUn (r : V → Hp → VK → Prop) (ta : TE) : TE := fun σ H Q => ta σ H fun x H1 => r x H1 Q
def rI (C : Int → Int → Prop) (g : Int → Int → V) : R2 := fun x y H Q => ∃ i j, x = .int i ∧ y = .int j ∧ C i j ∧ Q (g i j) H
def rI0 (g : Int → Int → V) : R2 := fun x y H Q => ∃ i j, x = .int i ∧ y = .int j ∧ Q (g i j) H
def rU (g : Int → V) : V → Hp → VK → Prop := fun x H Q => ∃ i, x = .int i ∧ Q (g i) H
section
variable {X : Cx} {a b c : Expr} {ta tb tc : TE} {pos : Pos}
theorem binT (ha : PE X a ta) (hb : PE X b tb) {pins : List (Addr × Obj)} {s : Shared} {σ : St} {H : Hp} {R : V → V → Hp → Prop} (I : Inv X pins σ H s)
    (h : ta σ H fun x H1 => tb σ H1 fun y H2 => R x y H2) {Q : Value → Shared → Prop} {f : Value → Value → Sem Value}
    (hf : ∀ v u s2 x y H2, Inv X pins σ H2 s2 → RelV x v → RelV y u → R x y H2 → wpAny (model X.prog X.w) X.A (f v u) Q X.xe s2) :
    wpAny (model X.prog X.w) X.A (eval a X.env) (fun v s₁ => wpAny (model X.prog X.w) X.A (eval b X.env) (fun u s₂ => wpAny (model X.prog X.w) X.A (f v u) Q X.xe s₂) X.xe s₁) X.xe s := by
  refine thn (ha pins s σ H _ I h) fun v s1 ⟨x, H1, I1, r1, q1⟩ => ?_
  refine thn (hb pins s1 σ H1 _ I1 q1) fun u s2 ⟨y, H2, I2, r2, q2⟩ => ?_
  exact hf v u s2 x y H2 I2 r1 r2 q2
theorem pe_op {op : Operator} {r : R2} (ho : OpR X (binaryOp op) r) (ha : PE X a ta) (hb : PE X b tb) : PE X (.BinOp a op b pos) (tOp r ta tb) := by
  intro pins s σ H Q I h
  exact wpAny_BinOp (binT ha hb I h fun v u s2 x y H2 I2 rx ry q => ho pins s2 σ H2 x y v u Q I2 rx ry q)
theorem pe_un {op : UnaryOp} {r : V → Hp → VK → Prop} (ho : UnR X (unaryOp op) r) (ha : PE X a ta) : PE X (.UnaryOp op a pos) (tUn r ta) := by
  intro pins s σ H Q I h
  exact UnaryOp_ (thn (ha pins s σ H _ I h) fun v s1 ⟨x, H1, I1, r1, q1⟩ => ho pins s1 σ H1 x v Q I1 r1 q1)
theorem opI {f : Value → Value → Sem Value} {C : Int → Int → Prop} {g : Int → Int → Int}
    (rule : ∀ (i j : Int) (t u : Tok) (s : Shared) (Q : Value → Shared → Prop) (E : Value → Shared → Prop), C i j → Q (.int (g i j) s.toks) { s with toks := s.toks + 1 } → wpAny (model X.prog X.w) X.A (f (.int i t) (.int j u)) Q E s) :
    OpR X f (rI C fun i j => .int (g i j)) := by
  intro pins s σ H x y v u Q I rx ry h
  obtain ⟨i, j, rfl, rfl, hc, q⟩ := h
  obtain ⟨t, rfl⟩ := rx
  obtain ⟨t', rfl⟩ := ry
  exact rule i j t t' s _ _ hc ⟨.int (g i j), H, I.tok _, ⟨_, rfl⟩, q⟩
theorem opI0 {f : Value → Value → Sem Value} {g : Int → Int → Int}
    (rule : ∀ (i j : Int) (t u : Tok) (s : Shared) (Q : Value → Shared → Prop) (E : Value → Shared → Prop), Q (.int (g i j) s.toks) { s with toks := s.toks + 1 } → wpAny (model X.prog X.w) X.A (f (.int i t) (.int j u)) Q E s) :
    OpR X f (rI0 fun i j => .int (g i j)) := by
  intro pins s σ H x y v u Q I rx ry h
  obtain ⟨i, j, rfl, rfl, q⟩ := h
  obtain ⟨t, rfl⟩ := rx
  obtain ⟨t', rfl⟩ := ry
  exact rule i j t t' s _ _ ⟨.int (g i j), H, I.tok _, ⟨_, rfl⟩, q⟩
theorem opB0 {f : Value → Value → Sem Value} {g : Int → Int → Bool}
    (rule : ∀ (i j : Int) (t u : Tok) (s : Shared) (Q : Value → Shared → Prop) (E : Value → Shared → Prop), Q (.bool (g i j)) s → wpAny (model X.prog X.w) X.A (f (.int i t) (.int j u)) Q E s) :
    OpR X f (rI0 fun i j => .bl (g i j)) := by
  intro pins s σ H x y v u Q I rx ry h
  obtain ⟨i, j, rfl, rfl, q⟩ := h
  obtain ⟨t, rfl⟩ := rx
  obtain ⟨t', rfl⟩ := ry
  exact rule i j t t' s _ _ ⟨.bl (g i j), H, I, rfl, q⟩
def CDiv (i j : Int) : Prop := 0 < j ∧ j < 1073741824
def CMul (i j : Int) : Prop := (-(2 ^ 64) < i ∧ i < 2 ^ 64) ∨ (-(2 ^ 64) < j ∧ j < 2 ^ 64)
theorem CMul.ok {i j : Int} (h : CMul i j) : IntMulOk i j := by
  rcases h with ⟨h1, h2⟩ | ⟨h1, h2⟩
  · exact .of_left (intBits_le_64 h1 h2)
  · exact .of_right (intBits_le_64 h1 h2)
theorem op_add : OpR X (binaryOp .Add) (rI0 fun i j => .int (i + j)) := opI0 fun _ _ _ _ _ _ _ q => add_int q
theorem op_sub : OpR X (binaryOp .Sub) (rI0 fun i j => .int (i - j)) := opI0 fun _ _ _ _ _ _ _ q => sub_int q
theorem op_mul : OpR X (binaryOp .Mult) (rI CMul fun i j => .int (i * j)) := opI fun _ _ _ _ _ _ _ hc q => mul_int q hc.ok
theorem op_fdiv : OpR X (binaryOp .FloorDiv) (rI CDiv fun i j => .int (i / j)) := opI fun i j _ _ _ _ _ hc q => by
  have h1 : (0 : Int) < j := hc.1
  have h2 : j < 1073741824 := hc.2
  exact floordiv_int (by omega) (by rw [Int.fdiv_eq_ediv_of_nonneg i (by omega)]; exact q) (.inl (PyProof.noPylong_small (by omega)))
theorem op_mod : OpR X (binaryOp .Mod) (rI (fun _ j => 0 < j) fun i j => .int (i % j)) := opI fun i j _ _ _ _ _ hc q => by
  have h1 : (0 : Int) < j := hc
  exact mod_int' (by omega) (by rw [Int.fmod_eq_emod_of_nonneg i (by omega)]; exact q)
theorem unI {f : Value → Sem Value} {g : Int → Int}
    (rule : ∀ (i : Int) (t : Tok) (s : Shared) (Q : Value → Shared → Prop) (E : Value → Shared → Prop), Q (.int (g i) s.toks) { s with toks := s.toks + 1 } → wpAny (model X.prog X.w) X.A (f (.int i t)) Q E s) :
    UnR X f (rU fun i => .int (g i)) := by
  intro pins s σ H x v Q I rx h
  obtain ⟨i, rfl, q⟩ := h
  obtain ⟨t, rfl⟩ := rx
  exact rule i t s _ _ ⟨.int (g i), H, I.tok _, ⟨_, rfl⟩, q⟩
theorem un_neg : UnR X (unaryOp .USub) (rU fun i => .int (-i)) := unI fun _ _ _ _ _ q => neg_int q
end
def scal : V → V → Bool
  | .non, .non => true | .non, .int _ => true | .int _, .non => true | .non, .bl _ => true | .bl _, .non => true | .non, .str _ => true | .str _, .non => true
  | .int _, .int _ => true | .bl _, .bl _ => true | .str _, .str _ => true | .byt _, .byt _ => true
  | .int _, .str _ => true | .str _, .int _ => true | .bl _, .str _ => true | .str _, .bl _ => true
  | _, _ => false
def rEq : R2 := fun x y H Q => scal x y = true ∧ Q (.bl (decide (x = y))) H
def rNe : R2 := fun x y H Q => scal x y = true ∧ Q (.bl (!decide (x = y))) H
theorem dec_int {i j : Int} : decide (V.int i = V.int j) = (i == j) := by
  rw [Bool.eq_iff_iff]
  simp
theorem dec_bl {i j : Bool} : decide (V.bl i = V.bl j) = (i == j) := by
  rw [Bool.eq_iff_iff]
  simp
theorem dec_str {i j : Str} : decide (V.str i = V.str j) = (i == j) := by
  rw [Bool.eq_iff_iff]
  simp
theorem dec_byt {i j : Array UInt8} : decide (V.byt i = V.byt j) = (i.toList == j.toList) := by
  rw [Bool.eq_iff_iff]
  cases i
  cases j
  simp
section
variable {X : Cx} {a b c : Expr} {ta tb tc : TE} {pos : Pos}
theorem fin_bl {pins : List (Addr × Obj)} {σ : St} {H : Hp} {s : Shared} {Q : VK} {k k' : Bool} (I : Inv X pins σ H s) (q : Q (.bl k) H) (e : k = k') : EP X pins σ Q (.bool k') s := by
  subst e
  exact ⟨.bl k, H, I, rfl, q⟩
theorem op_eq : OpR X (compareOp .Eq) rEq := by
  intro pins s σ H x y v u Q I rx ry h
  obtain ⟨hs, q⟩ := h
  cases x with
  | non =>
    cases rx
    cases y with
    | non => cases ry; exact PySem.EqNone.eq_none_none (fin_bl I q (by simp))
    | bl j => cases ry; exact PySem.EqNone.eq_none_bool (fin_bl I q (by simp))
    | int j => obtain ⟨t', rfl⟩ := ry; exact PySem.EqNone.eq_none_int (fin_bl I q (by simp))
    | str j => obtain ⟨t', rfl⟩ := ry; exact PySem.EqNone.eq_none_str (fin_bl I q (by simp))
    | _ => exact absurd (show false = true from hs) Bool.false_ne_true
  | bl i =>
    cases rx
    cases y with
    | non => cases ry; exact PySem.EqNone.eq_bool_none (fin_bl I q (by simp))
    | bl j => cases ry; exact eq_bool (fin_bl I q dec_bl)
    | str j => obtain ⟨t', rfl⟩ := ry; exact PySem.EqMixed.eq_bool_str (fin_bl I q (by simp))
    | _ => exact absurd (show false = true from hs) Bool.false_ne_true
  | int i =>
    obtain ⟨t, rfl⟩ := rx
    cases y with
    | non => cases ry; exact PySem.EqNone.eq_int_none (fin_bl I q (by simp))
    | int j => obtain ⟨t', rfl⟩ := ry; exact eq_int (fin_bl I q dec_int)
    | str j => obtain ⟨t', rfl⟩ := ry; exact PySem.EqMixed.eq_int_str (fin_bl I q (by simp))
    | _ => exact absurd (show false = true from hs) Bool.false_ne_true
  | str i =>
    obtain ⟨t, rfl⟩ := rx
    cases y with
    | non => cases ry; exact PySem.EqNone.eq_str_none (fin_bl I q (by simp))
    | bl j => cases ry; exact PySem.EqMixed.eq_str_bool (fin_bl I q (by simp))
    | int j => obtain ⟨t', rfl⟩ := ry; exact PySem.EqMixed.eq_str_int (fin_bl I q (by simp))
    | str j => obtain ⟨t', rfl⟩ := ry; exact eq_str (fin_bl I q dec_str)
    | _ => exact absurd (show false = true from hs) Bool.false_ne_true
  | byt i =>
    obtain ⟨t, rfl⟩ := rx
    cases y with
    | byt j => obtain ⟨t', rfl⟩ := ry; exact PySem.W.eq_bytes (fin_bl I q dec_byt)
    | _ => exact absurd (show false = true from hs) Bool.false_ne_true
  | _ => cases y <;> exact absurd (show false = true from hs) Bool.false_ne_true
theorem op_ne : OpR X (compareOp .NotEq) rNe := by
  intro pins s σ H x y v u Q I rx ry h
  obtain ⟨hs, q⟩ := h
  cases x with
  | non =>
    cases rx
    cases y with
    | non => cases ry; exact PySem.EqNone.ne_none_none (fin_bl I q (by simp))
    | bl j => cases ry; exact PySem.EqNone.ne_none_bool (fin_bl I q (by simp))
    | int j => obtain ⟨t', rfl⟩ := ry; exact PySem.EqNone.ne_none_int (fin_bl I q (by simp))
    | str j => obtain ⟨t', rfl⟩ := ry; exact PySem.EqNone.ne_none_str (fin_bl I q (by simp))
    | _ => exact absurd (show false = true from hs) Bool.false_ne_true
  | bl i =>
    cases rx
    cases y with
    | non => cases ry; exact PySem.EqNone.ne_bool_none (fin_bl I q (by simp))
    | bl j => cases ry; exact ne_bool (fin_bl I q (congrArg not dec_bl))
    | str j => obtain ⟨t', rfl⟩ := ry; exact PySem.EqMixed.ne_bool_str (fin_bl I q (by simp))
    | _ => exact absurd (show false = true from hs) Bool.false_ne_true
  | int i =>
    obtain ⟨t, rfl⟩ := rx
    cases y with
    | non => cases ry; exact PySem.EqNone.ne_int_none (fin_bl I q (by simp))
    | int j => obtain ⟨t', rfl⟩ := ry; exact ne_int (fin_bl I q (congrArg not dec_int))
    | str j => obtain ⟨t', rfl⟩ := ry; exact PySem.EqMixed.ne_int_str (fin_bl I q (by simp))
    | _ => exact absurd (show false = true from hs) Bool.false_ne_true
  | str i =>
    obtain ⟨t, rfl⟩ := rx
    cases y with
    | non => cases ry; exact PySem.EqNone.ne_str_none (fin_bl I q (by simp))
    | bl j => cases ry; exact PySem.EqMixed.ne_str_bool (fin_bl I q (by simp))
    | int j => obtain ⟨t', rfl⟩ := ry; exact PySem.EqMixed.ne_str_int (fin_bl I q (by simp))
    | str j => obtain ⟨t', rfl⟩ := ry; exact ne_str (fin_bl I q (congrArg not dec_str))
    | _ => exact absurd (show false = true from hs) Bool.false_ne_true
  | byt i =>
    obtain ⟨t, rfl⟩ := rx
    cases y with
    | byt j => obtain ⟨t', rfl⟩ := ry; exact PySem.W.ne_bytes (fin_bl I q (congrArg not dec_byt))
    | _ => exact absurd (show false = true from hs) Bool.false_ne_true
  | _ => cases y <;> exact absurd (show false = true from hs) Bool.false_ne_true
theorem op_lt : OpR X (compareOp .Lt) (rI0 fun i j => .bl (decide (i < j))) := opB0 fun _ _ _ _ _ _ _ q => lt_int q
theorem op_le : OpR X (compareOp .LtE) (rI0 fun i j => .bl (decide (i ≤ j))) := opB0 fun _ _ _ _ _ _ _ q => le_int q
theorem op_gt : OpR X (compareOp .Gt) (rI0 fun i j => .bl (decide (j < i))) := opB0 fun _ _ _ _ _ _ _ q => gt_int q
theorem op_in_str : OpR X (compareOp .In) (fun x y H Q => ∃ i j, x = .str i ∧ y = .str j ∧ Q (.bl (!(Builtin.Str.occurrences j i 0 j.length 1).isEmpty)) H) := by
  intro pins s σ H x y v u Q I rx ry h
  obtain ⟨i, j, rfl, rfl, q⟩ := h
  obtain ⟨t, rfl⟩ := rx
  obtain ⟨t', rfl⟩ := ry
  exact in_str (fin_bl I q rfl)
theorem nomark (b : Expr) {op : CmpOp} (h : op ≠ .In := by decide) (h2 : op ≠ .NotIn := by decide) : behindInMarks op b = false := by
  have e1 : (op == CmpOp.In) = false := by cases op <;> first | rfl | exact absurd rfl h
  have e2 : (op == CmpOp.NotIn) = false := by cases op <;> first | rfl | exact absurd rfl h2
  cases b <;> simp [behindInMarks, e1, e2]
theorem pe_cmpR {op : CmpOp} {r : R2} (ho : OpR X (compareOp op) r) (ha : PE X a ta) (hb : PE X b tb) (hm : behindInMarks op b = false) : PE X (.Compare a [op] [b] pos) (tOp r ta tb) := by
  intro pins s σ H Q I h
  exact wpAny_Compare1 (binT ha hb I h fun v u s2 x y H2 I2 rx ry q => ho pins s2 σ H2 x y v u Q I2 rx ry q) hm
def tTest (t : TE) : TT := fun σ H Q => t σ H fun x H' => ∃ k, x = .bl k ∧ Q k H'
theorem pt_cmpR {op : CmpOp} {r : R2} (ho : OpR X (compareOp op) r) (ha : PE X a ta) (hb : PE X b tb) (hm : behindInMarks op b = false) : PT X (.Compare a [op] [b] pos) (tTest (tOp r ta tb)) := by
  intro pins s σ H Q I h
  refine wpAny_isTrue_Compare1 (thn (ha pins s σ H _ I h) fun v s1 ⟨x, H1, I1, r1, q1⟩ => thn (hb pins s1 σ H1 _ I1 q1) fun u s2 ⟨y, H2, I2, r2, q2⟩ =>
    thn (ho pins s2 σ H2 x y v u _ I2 r1 r2 q2) fun c s3 ⟨z, H3, I3, r3, k, e, q3⟩ => ?_) hm
  subst e
  cases r3
  exact wpAny_truthy_bool ⟨H3, I3, q3⟩
def tChain (r r' : R2) (ta tb tc : TE) : TE := fun σ H Q => ta σ H fun x H1 => tb σ H1 fun y H2 => r x y H2 fun z H3 => ∃ k, z = .bl k ∧
  (if k = true then tc σ H3 fun w' H4 => r' y w' H4 Q else Q (.bl false) H3)
theorem pt_chain {op op' : CmpOp} {r r' : R2} (ho : OpR X (compareOp op) r) (ho' : OpR X (compareOp op') r') (ha : PE X a ta) (hb : PE X b tb) (hc : PE X c tc)
    (hm : lastMarks [op, op'] [b, c] = false := by with_unfolding_all rfl) : PT X (.Compare a [op, op'] [b, c] pos) (tTest (tChain r r' ta tb tc)) := by
  intro pins s σ H Q I h
  refine isTrue_chain (thn (ha pins s σ H _ I h) fun v s1 ⟨x, H1, I1, r1, q1⟩ => test_link (thn (hb pins s1 σ H1 _ I1 q1) fun u s2 ⟨y, H2, I2, r2, q2⟩ =>
    thn (ho pins s2 σ H2 x y v u _ I2 r1 r2 q2) fun d s3 ⟨z, H3, I3, r3, k, e, q3⟩ => ?_)) hm
  subst e
  cases r3
  refine wpAny_truthy_bool ?_
  cases k with
  | false =>
    obtain ⟨k', e', q'⟩ := q3
    cases e'
    exact ite_ff ⟨H3, I3, q'⟩
  | true =>
    refine ite_tt (test_last (thn (hc pins s3 σ H3 _ I3 q3) fun w' s4 ⟨z', H4, I4, r4, q4⟩ => thn (ho' pins s4 σ H4 y z' u w' _ I4 r2 r4 q4) fun d' s5 ⟨z2, H5, I5, r5, k2, e2, q5⟩ => ?_))
    subst e2
    cases r5
    exact wpAny_truthy_bool ⟨H5, I5, q5⟩
theorem line63 : (sizeLine : Nat) < 2 ^ 63 := by rw [sizeLine_eq]; decide
theorem op_add_str : OpR X (binaryOp .Add) (fun x y H Q => ∃ i j, x = .str i ∧ y = .str j ∧ i.length + j.length ≤ sizeLine ∧ Q (.str (i ++ j)) H) := by
  intro pins s σ H x y v u Q I rx ry h
  obtain ⟨i, j, rfl, rfl, hz, q⟩ := h
  obtain ⟨t, rfl⟩ := rx
  obtain ⟨t', rfl⟩ := ry
  exact add_str (fun t' tk => ⟨.str (i ++ j), H, I.tok _, ⟨_, rfl⟩, q⟩) hz
theorem vals1 {x : V} {us : List Value} (r : Vals [x] us) : ∃ u, us = [u] ∧ RelV x u := by
  cases r with
  | cons r1 r2 => cases r2; exact ⟨_, rfl, r1⟩
theorem vals2 {x y : V} {us : List Value} (r : Vals [x, y] us) : ∃ u w', us = [u, w'] ∧ RelV x u ∧ RelV y w' := by
  cases r with
  | cons r1 r2 =>
    cases r2 with
    | cons r3 r4 => cases r4; exact ⟨_, _, rfl, r1, r3⟩
theorem call_str_int : CallR X (.type "str") (fun xs H Q => ∃ i, xs = [.int i] ∧ i.natAbs.log2 < 1920 ∧ Q (.str (toString i)) H) := by
  intro pins s σ H xs us Q I r h
  obtain ⟨i, rfl, hz, q⟩ := h
  obtain ⟨u, rfl, t, rfl⟩ := vals1 r
  exact PySem.P.str_of_int hz ⟨.str _, H, I.tok _, ⟨_, rfl⟩, q⟩
end
end L2
namespace L2
open PySem PySem.Spec PyProof.Rows
structure ObjM (h : Heap) (x dx C : Addr) (mA : Str → Option Value) : Prop where
  obj : h.get? x = some (PySem.W.instObj C dx)
  ns : h.Ns1 dx mA
  ne : dx ≠ x
theorem lookIn_ns {h : Heap} {dx : Addr} {mA : Str → Option Value} (n : h.Ns1 dx mA) : ∃ od, h.get? dx = some od ∧ ∀ name, PySem.W.lookIn name od = some (mA name) := by
  obtain ⟨o, es, ep, ho, hd, hk, _, hm⟩ := n
  refine ⟨o, ho, fun name => ?_⟩
  have e := hm name
  unfold nsFind findBy at e
  rw [← Array.find?_toList] at e
  unfold PySem.W.lookIn
  rw [hd]
  dsimp only
  split
  · rename_i y q
    rw [q] at e
    exact congrArg some e
  · rename_i q
    rw [q] at e
    have a : es.toList.any (·.refKey) = false := by
      rw [List.any_eq_false]
      intro y hy
      obtain ⟨z, t, hkey⟩ := hk y (Array.mem_toList_iff.mp hy)
      simp [DictEntry.refKey, hkey]
    have a' : ¬ es.toList.any (·.refKey) = true := by rw [a]; exact Bool.false_ne_true
    rw [if_neg a']
    exact congrArg some e
theorem ObjM.look {h : Heap} {x dx C : Addr} {mA : Str → Option Value} (I : ObjM h x dx C mA) : ∃ od, PySem.W.InstAt h x (PySem.W.instObj C dx) C (some od) ∧ ∀ name, PySem.W.lookIn name od = some (mA name) :=
  let ⟨od, ho, hl⟩ := lookIn_ns I.ns
  ⟨od, ⟨I.obj, rfl, rfl, ho⟩, hl⟩
section
variable {prog : Program} {w : World} {A : Around} {E : Value → Shared → Prop} {s : Shared} {K : PySem.W.Frag} {x dx C f : Addr} {mA : Str → Option Value} {name : Str} {v : Value}
theorem get_map {expr : Bool} {Q : Value → Shared → Prop} (X : K.In s.heap) (I : ObjM s.heap x dx C mA) (hg : PySem.W.plainGet K C name = true) (hh : PySem.W.hasDictIn K C = true)
    (ha : PySem.W.findIn K (.ref C) name = some none) (hv : mA name = some v) (hv' : PySem.W.handedIn v = true) (h : Q v { s with toks := s.toks + 1 }) :
    wpAny (model prog w) A (getAttr (.ref x) name expr) Q E s := by
  obtain ⟨od, J, hl⟩ := I.look
  exact PySem.W.get_value X J (PySem.W.plainGet_of hg).1 (PySem.W.findObj_own hh ha rfl (by rw [hl, hv])) hv' h
theorem get_meth {pl : Sem Bool} {Q : Value × List Value → Shared → Prop} (X : K.In s.heap) (I : ObjM s.heap x dx C mA) (hg : PySem.W.plainGet K C name = true)
    (hf : PySem.W.findIn K (.ref C) name = some (some (.ref f))) (ht : PySem.W.isFn K (.ref f) = true) (hv : mA name = none) (h : Q (.ref f, [.ref x]) s) :
    wpAny (model prog w) A (getMethod (.ref x) name pl) Q E s := by
  obtain ⟨od, J, hl⟩ := I.look
  exact PySem.W.method_fn X J (PySem.W.plainGet_of hg).1 (PySem.W.plainGet_of hg).2 hf (beq_iff_eq.mp ht) (by show (PySem.W.lookIn name od).map (·.isSome) = some false; rw [hl, hv]; rfl) h
theorem set_map {ns : List Str} {Q : Unit → Shared → Prop} (X : K.In s.heap) (I : ObjM s.heap x dx C mA)
    (hs : PySem.W.findIn K (.ref C) "__setattr__" = some (some (.builtin "object.__setattr__"))) (hp : PySem.W.plainOver K C = true) (ht : PySem.W.takerIn K C name = some none) (hh : PySem.W.hasDictIn K C = true)
    (hw : PySem.Within mA ns) (hsz : ns.length ≤ sizeLine)
    (h : ∀ h', ObjM h' x dx C (fun y => if y = name then some v else mA y) → Heap.SameBut dx s.heap h' → Q () { s with heap := h', toks := s.toks + 2 }) :
    wpAny (model prog w) A (setAttr (.ref x) name v) Q E s := by
  obtain ⟨od, J, hl⟩ := I.look
  refine PySem.W.set_plain X J hs (PySem.W.osa_open (s := { s with toks := s.toks + 1 }) (r := none) X J hp ht fun b => ?_)
  obtain ⟨cd, hc, hd'⟩ := PySem.W.any_some hh
  have hx : s.heap.get? x = some ⟨.ref C, some dx, .plain, #[]⟩ := I.obj
  refine wpAny_bind (wpAny_pure (wpAny_bind (wpAny_bind (wpAny_loadPart hx (wpAny_bind (PySem.W.Looks.here (s := { s with toks := s.toks + 1 }) (PySem.W.looks_clsIn X hc) ?_))))))
  rw [hd']
  refine wpAny_pure (a := some dx) (wpAny_bind (wpAny_pure (wpAny_bind ?_)))
  refine wpAny_nsSet1 (s := { s with toks := s.toks + 1 }) I.ns fun h' hn2 hs2 => ?_
  obtain ⟨oD, esD, epD, hoD, hdD, hcD⟩ := hn2.count (PySem.Within.cons name v hw)
  refine wpAny_bind (wpAny_lookBehind hoD (by rw [hdD]; exact pastItsLine_dict (Nat.le_trans hcD (by rw [List.length_cons]; omega))) ?_)
  exact wpAny_pure (h _ ⟨(hs2.2 _ (Ne.symm I.ne)).trans I.obj, hn2, I.ne⟩ hs2)
theorem make_map {R : Result → Shared → Prop} {vs : List Value} {kw : List (Str × Value)} (X : K.In s.heap) (hm : PySem.W.makesIn K C = true)
    (hi : PySem.W.findIn K (.ref C) "__init__" = some (some (.ref f))) (hf : PySem.W.typeIn K (.ref f) = some (.type "function"))
    (h : codeAny (model prog w) (A.under (.builtin "type.__call__" ⟨.ref C :: vs, kw⟩)) (.call (.ref f) ⟨.ref (s.heap.objs.size + 1) :: vs, kw⟩) (PySem.W.InitBack (s.heap.objs.size + 1) R)
      { s with heap := (s.heap.push PySem.W.emptyDict).push (PySem.W.instObj C s.heap.objs.size) }) :
    codeAny (model prog w) A (.call (.ref C) ⟨vs, kw⟩) R s := by
  obtain ⟨hh, g, d, t, os⟩ := s
  exact PySem.W.make_core (PySem.W.makes_of X hm) (PySem.W.looks_findIn X hi) (fun self => PySem.W.bind_fn X self hf) (.inl rfl) h
end
def putF (f : Str) (v : V) : List (Str × V) → List (Str × V)
  | [] => [(f, v)]
  | (g, x) :: r => if g = f then (g, v) :: r else (g, x) :: putF f v r
theorem lookup_putF (f g : Str) (v : V) : ∀ fs : List (Str × V), (putF f v fs).lookup g = if g = f then some v else fs.lookup g
  | [] => by
    show List.lookup g [(f, v)] = _
    by_cases h : g = f
    · have hb : (g == f) = true := beq_iff_eq.mpr h
      simp only [List.lookup, hb, if_pos h]
    · have hb : (g == f) = false := beq_eq_false_iff_ne.mpr h
      simp only [List.lookup, hb, if_neg h]
  | (k, x) :: r => by
    have ih := lookup_putF f g v r
    rw [show putF f v ((k, x) :: r) = (if k = f then (k, v) :: r else (k, x) :: putF f v r) from rfl]
    by_cases hk : k = f
    · rw [if_pos hk]
      by_cases h : g = k
      · have hb : (g == k) = true := beq_iff_eq.mpr h
        simp only [List.lookup, hb, if_pos (h.trans hk)]
      · have hb : (g == k) = false := beq_eq_false_iff_ne.mpr h
        simp only [List.lookup, hb, if_neg (fun e : g = f => h (e.trans hk.symm))]
    · rw [if_neg hk]
      by_cases h : g = k
      · have hb : (g == k) = true := beq_iff_eq.mpr h
        simp only [List.lookup, hb, if_neg (fun e : g = f => hk (h.symm.trans e))]
      · have hb : (g == k) = false := beq_eq_false_iff_ne.mpr h
        simp only [List.lookup, hb]
        exact ih
theorem keys_putF (f : Str) (v : V) : ∀ fs : List (Str × V), f ∈ (putF f v fs).map (·.1) ∧ ∀ g, g ∈ fs.map (·.1) → g ∈ (putF f v fs).map (·.1)
  | [] => ⟨by simp [putF], fun g h => by simp at h⟩
  | (k, x) :: r => by
    obtain ⟨i1, i2⟩ := keys_putF f v r
    rw [show putF f v ((k, x) :: r) = (if k = f then (k, v) :: r else (k, x) :: putF f v r) from rfl]
    by_cases hk : k = f
    · rw [if_pos hk]
      subst hk
      exact ⟨by simp, fun g h => by simpa using h⟩
    · rw [if_neg hk]
      refine ⟨?_, fun g h => ?_⟩
      · rw [List.map_cons]
        exact List.mem_cons_of_mem _ i1
      · rw [List.map_cons] at h ⊢
        rcases List.mem_cons.mp h with e | e
        · exact List.mem_cons.mpr (.inl e)
        · exact List.mem_cons_of_mem _ (i2 g e)
theorem length_putF (f : Str) (v : V) : ∀ fs : List (Str × V), (putF f v fs).length ≤ fs.length + 1
  | [] => by simp [putF]
  | (k, x) :: r => by
    have ih := length_putF f v r
    rw [show putF f v ((k, x) :: r) = (if k = f then (k, v) :: r else (k, x) :: putF f v r) from rfl]
    by_cases hk : k = f
    · rw [if_pos hk, List.length_cons, List.length_cons]; omega
    · rw [if_neg hk, List.length_cons, List.length_cons]; omega
theorem RelO.some_of {v : V} {o : Option Value} (r : RelO (some v) o) : ∃ u, o = some u ∧ RelV v u := by
  cases o with
  | none => exact (show False from r).elim
  | some u => exact ⟨u, rfl, r⟩
theorem RelO.none_of {o : Option Value} (r : RelO none o) : o = none := by
  cases o with
  | none => rfl
  | some u => exact (show False from r).elim
theorem handed_of {v : V} {u : Value} (r : RelV v u) : PySem.W.handedIn u = true := by
  cases v with
  | non => cases (show u = Value.none from r); rfl
  | bl b => cases (show u = Value.bool b from r); rfl
  | int i => obtain ⟨t, e⟩ := (show ∃ t, u = Value.int i t from r); cases e; rfl
  | str x => obtain ⟨t, e⟩ := (show ∃ t, u = Value.str x t from r); cases e; rfl
  | byt b => obtain ⟨t, e⟩ := (show ∃ t, u = Value.bytes b t from r); cases e; rfl
  | flt b => obtain ⟨t, e⟩ := (show ∃ t, u = Value.float b t from r); cases e; rfl
  | ref a => cases (show u = Value.ref a from r); rfl
  | ty n => cases (show u = Value.type n from r); rfl
section
variable {P : Program} {w : World} {H H' : Hp} {h h' : Heap} {a C dx : Addr} {fs fs' : List (Str × V)}
theorem ins_get (hok : HOk P w H h) (e : H a = some (.ins C dx fs)) : ∃ mA, ObjM h a dx C mA ∧ (∀ f, RelO (fs.lookup f) (mA f)) ∧ PySem.Within mA (fs.map (·.1)) ∧ fs.length ≤ 1000 ∧ H dx = some (.own a) := by
  obtain ⟨d, z, ne, ob, mA, n, r, q⟩ := (show ObjOk P w H h a (.ins C dx fs) from hok a _ e)
  exact ⟨mA, ⟨ob, n, ne⟩, r, q, z, d⟩
end
structure Cls (K : PySem.W.Frag) (C : Addr) : Prop where
  pg : PySem.W.plainGet K C Str.empty = true
  hd : PySem.W.hasDictIn K C = true
  po : PySem.W.plainOver K C = true
  sa : PySem.W.findIn K (.ref C) "__setattr__" = some (some (.builtin "object.__setattr__"))
theorem Cls.get {K : PySem.W.Frag} {C : Addr} (c : Cls K C) (f : Str) : PySem.W.plainGet K C f = true := c.pg
def NoAttr (K : PySem.W.Frag) (C : Addr) (f : Str) : Prop := PySem.W.findIn K (.ref C) f = some none
theorem NoAttr.taker {K : PySem.W.Frag} {C : Addr} {f : Str} (n : NoAttr K C f) : PySem.W.takerIn K C f = some none := by
  unfold PySem.W.takerIn
  rw [show PySem.W.findIn K (.ref C) f = some none from n]
  rfl
structure Meth (K : PySem.W.Frag) (C : Addr) (m : Str) (f : Addr) : Prop where
  at_ : PySem.W.findIn K (.ref C) m = some (some (.ref f))
  fn : PySem.W.isFn K (.ref f) = true
  kp : PySem.W.keepIn K (.ref f) = true
section
variable {X : Cx} {pins : List (Addr × Obj)} {σ : St} {H : Hp} {s : Shared} {a C dx : Addr} {fs : List (Str × V)} {f : Str} {v : V} {A : Around} {E : Value → Shared → Prop}
theorem getattr_ok {b : Bool} {Q : Value → Shared → Prop} (I : Inv X pins σ H s) (e : H a = some (.ins C dx fs)) (c : Cls X.K C) (n : NoAttr X.K C f) (l : fs.lookup f = some v)
    (h : ∀ u s', Inv X pins σ H s' → RelV v u → Q u s') : wpAny (model X.prog X.w) A (getAttr (.ref a) f b) Q E s := by
  obtain ⟨mA, O, r, _, _, _⟩ := ins_get I.hok e
  obtain ⟨u, hu, ru⟩ := RelO.some_of (v := v) (o := mA f) (by rw [← l]; exact r f)
  exact get_map I.kIn O (c.get f) c.hd n hu (handed_of ru) (h u _ (I.tok _) ru)
theorem getmeth_ok {m : Str} {g : Addr} {pl : Sem Bool} {Q : Value × List Value → Shared → Prop} (I : Inv X pins σ H s) (e : H a = some (.ins C dx fs)) (c : Cls X.K C) (k : Meth X.K C m g) (l : fs.lookup m = none)
    (h : Q (.ref g, [.ref a]) s) : wpAny (model X.prog X.w) A (getMethod (.ref a) m pl) Q E s := by
  obtain ⟨mA, O, r, _, _, _⟩ := ins_get I.hok e
  have hn : mA m = none := RelO.none_of (by rw [← l]; exact r m)
  exact get_meth I.kIn O (c.get m) k.at_ k.fn hn h
theorem setattr_ok {y : V} {u : Value} {Q : Unit → Shared → Prop} (I : Inv X pins σ H s) (e : H a = some (.ins C dx fs)) (c : Cls X.K C) (n : NoAttr X.K C f) (hl : fs.length < 1000) (ry : RelV y u)
    (h : ∀ s', Inv X pins σ (upd H a (.ins C dx (putF f y fs))) s' → Q () s') : wpAny (model X.prog X.w) A (setAttr (.ref a) f u) Q E s := by
  obtain ⟨mA, O, r, wi, _, ho⟩ := ins_get I.hok e
  have hz : (fs.map (·.1)).length ≤ sizeLine := by rw [List.length_map, sizeLine_eq]; omega
  refine set_map I.kIn O c.sa c.po n.taker c.hd wi hz fun h' O' sb => h _ ?_
  have hd : ∃ o, h'.get? dx = some o := let ⟨o, _, _, e', _⟩ := O'.ns; ⟨o, e'⟩
  refine I.write (x := a) (e := dx) (by rw [e]; exact True.intro) (.inr ho) (fun b q hb z => (sb.2 b hb).trans z) hd ?_
  refine ⟨by rw [upd_ne O.ne]; exact ho, ?_, O.ne, O'.obj, _, O'.ns, fun g => ?_, fun g hg => ?_⟩
  · have := length_putF f y fs; omega
  · show RelO ((putF f y fs).lookup g) (if g = f then some u else mA g)
    rw [lookup_putF]
    by_cases q : g = f
    · rw [if_pos q, if_pos q]; exact ry
    · rw [if_neg q, if_neg q]; exact r g
  · by_cases q : g = f
    · rw [q]; exact (keys_putF f y fs).1
    · refine (keys_putF f y fs).2 g (wi g fun z => hg ?_)
      show (if g = f then some u else mA g) = none
      rw [if_neg q]; exact z
theorem Inv.made (I : Inv X pins σ H s) : Inv X pins σ (upd (upd H s.heap.objs.size (.own (s.heap.objs.size + 1))) (s.heap.objs.size + 1) (.ins C s.heap.objs.size []))
    { s with heap := (s.heap.push PySem.W.emptyDict).push (PySem.W.instObj C s.heap.objs.size) } := by
  have e1 : (s.heap.push PySem.W.emptyDict).get? s.heap.objs.size = some PySem.W.emptyDict := Heap.get?_push_size s.heap rfl
  have e2 : ((s.heap.push PySem.W.emptyDict).push (PySem.W.instObj C s.heap.objs.size)).get? (s.heap.objs.size + 1) = some (PySem.W.instObj C s.heap.objs.size) := by
    have := Heap.get?_push_size (s.heap.push PySem.W.emptyDict) (o := PySem.W.instObj C s.heap.objs.size) rfl
    rwa [Heap.size_push] at this
  have e3 : (s.heap.push PySem.W.emptyDict).Ns s.heap.objs.size (fun _ => none) := ⟨PySem.W.emptyDict, #[], _, e1, rfl, (fun e he => absurd he (by simp)), fun _ => rfl⟩
  have I1 := I.laid (a := s.heap.objs.size) (o := .own (s.heap.objs.size + 1)) (h' := s.heap.push PySem.W.emptyDict) (t' := s.toks) (fun b u q => Heap.get?_push_of_some _ q) (Nat.le_refl _) ⟨_, e1⟩
  refine I1.laid (a := s.heap.objs.size + 1) (o := .ins C s.heap.objs.size []) (t' := s.toks) (fun b u q => Heap.get?_push_of_some _ q) (Nat.le_of_eq (Heap.size_push _ _)) ?_
  have ne : s.heap.objs.size ≠ s.heap.objs.size + 1 := Nat.ne_of_lt (Nat.lt_succ_self _)
  refine ⟨by rw [upd_ne ne, upd_same], Nat.zero_le _, ne, e2, fun _ => none, (Heap.Ns1.of_empty e3).at fun o q => Heap.get?_push_of_some _ q, fun _ => True.intro, fun y hy => absurd rfl hy⟩
theorem attr_of {prog : Program} {w : World} {env : Env} {e : Expr} {f : Str} {pos : Pos} {s : Shared} {Q : Value → Shared → Prop} (hb : attributeBase e f env (eval e env) = eval e env)
    (h : wpAny (model prog w) A (eval e env) (fun o s₁ => wpAny (model prog w) A (getAttr o f true) Q E s₁) E s) : wpAny (model prog w) A (eval (.Attribute e f pos) env) Q E s :=
  Attribute_any_ h (by rw [arm_eval_Attribute, hb])
end
def tFld (K : PySem.W.Frag) (ta : TE) (f : Str) : TE := fun σ H Q => ta σ H fun x H1 => ∃ a C dx fs v, x = .ref a ∧ H1 a = some (.ins C dx fs) ∧ Cls K C ∧ NoAttr K C f ∧ fs.lookup f = some v ∧ Q v H1
def sFld (K : PySem.W.Frag) (ta tv : TE) (f : Str) : TS := fun D σ H => tv σ H fun y H1 => ta σ H1 fun x H2 => ∃ a C dx fs, x = .ref a ∧ H2 a = some (.ins C dx fs) ∧ Cls K C ∧ NoAttr K C f ∧ fs.length < 1000 ∧
  D.nx σ (upd H2 a (.ins C dx (putF f y fs)))
def InOp (X : Cx) (op : Operator) (rd : V → V → Hp → VK → Prop) : Prop :=
  ∀ (pins : List (Addr × Obj)) (s : Shared) (σ : St) (H : Hp) (x y : V) (u v : Value) (Q : VK), Inv X pins σ H s → RelV x u → RelV y v → rd x y H Q → wpAny (model X.prog X.w) X.A (inplaceOp op u v) (EP X pins σ Q) X.xe s
def sFldAug (K : PySem.W.Frag) (ta tv : TE) (rd : V → V → Hp → VK → Prop) (f : Str) : TS := fun D σ H => ta σ H fun x H1 => ∃ a C dx fs v, x = .ref a ∧ H1 a = some (.ins C dx fs) ∧ Cls K C ∧ NoAttr K C f ∧ fs.lookup f = some v ∧
  tv σ H1 fun y H2 => rd v y H2 fun z H3 => ∃ dx' fs', H3 a = some (.ins C dx' fs') ∧ fs'.length < 1000 ∧ D.nx σ (upd H3 a (.ins C dx' (putF f z fs')))
section
variable {X : Cx} {o e value : Expr} {f : Str} {pos pos' tpos : Pos} {ta tv : TE}
theorem pe_fld (he : PE X e ta) (hb : attributeBase e f X.env (eval e X.env) = eval e X.env) : PE X (.Attribute e f pos) (tFld X.K ta f) := by
  intro pins s σ H Q I h
  refine attr_of hb (thn (he pins s σ H _ I h) fun u s1 ⟨x, H1, I1, rx, a, C, dx, fs, v, ex, ea, c, n, l, q⟩ => ?_)
  subst ex
  obtain rfl : u = Value.ref a := rx
  exact getattr_ok I1 ea c n l fun u' s2 I2 ru => ⟨v, H1, I2, ru, q⟩
theorem ps_fld (ha : PE X o ta) (hv : PE X value tv) (hs : swapsWith value (some (.Attribute o f pos')) pos.line X.env = pure false) : PS X (.Assign [.Attribute o f pos'] value pos) (sFld X.K ta tv f) := by
  intro pins s σ H D I h
  refine plainObj_wpAny_Assign_Attribute (thn (hv pins s σ H _ I h) fun u s1 ⟨y, H1, I1, ry, q⟩ => thn (ha pins s1 σ H1 _ I1 q) fun ov s2 ⟨x, H2, I2, rx, a, C, dx, fs, ex, ea, c, n, l, q2⟩ => ?_) hs
  subst ex
  obtain rfl : ov = Value.ref a := rx
  exact setattr_ok I2 ea c n l ry fun s3 I3 => ⟨σ, _, I3, q2⟩
theorem ps_fldaug {op : Operator} {rd : V → V → Hp → VK → Prop} (ha : PE X o ta) (hv : PE X value tv) (hop : InOp X op rd) : PS X (.AugAssign (.Attribute o f tpos) op value pos) (sFldAug X.K ta tv rd f) := by
  intro pins s σ H D I h
  refine wpAny_AugAssign_AttributeAny (thn (ha pins s σ H _ I h) fun ov s1 ⟨x, H1, I1, rx, a, C, dx, fs, v, ex, ea, c, n, l, q⟩ => ?_)
  subst ex
  obtain rfl : ov = Value.ref a := rx
  refine getattr_ok I1 ea c n l fun u s2 I2 ru => thn (hv pins s2 σ H1 _ I2 q) fun w3 s3 ⟨y, H2, I3, ry, q3⟩ => thn (hop pins s3 σ H2 v y u w3 _ I3 ru ry q3) fun w4 s4 ⟨z, H3, I4, rz, dx', fs', ea', l', q4⟩ => ?_
  exact setattr_ok I4 ea' c n l' rz fun s5 I5 => ⟨σ, _, I5, q4⟩
def rAdd : V → V → Hp → VK → Prop := fun x y H Q => ∃ i j, x = .int i ∧ y = .int j ∧ Q (.int (i + j)) H
theorem in_add : InOp X .Add rAdd := by
  rintro pins s σ H x y u v Q I rx ry ⟨i, j, rfl, rfl, q⟩
  obtain ⟨t, rfl⟩ := (show ∃ t, u = Value.int i t from rx)
  obtain ⟨t', rfl⟩ := (show ∃ t', v = Value.int j t' from ry)
  exact PyProof.Rows.iadd_int ⟨.int (i + j), H, I.tok _, ⟨_, rfl⟩, q⟩
end
section
variable {X : Cx} {pins : List (Addr × Obj)} {σ : St} {H : Hp} {s : Shared} {A : Around} {E : Value → Shared → Prop} {Q : Value → Shared → Prop} {c : Value} {b : Bool}
end
end L2
namespace L2
open PySem PySem.Spec PyProof.Rows
structure Room (k : Nat) (A : Around) : Prop where
  hd : A.handled = none
  dp : A.depth + 3 * k + 5 < recursionLimit
  un : A.units + 16 * k + 200 < cLine
theorem Room.mono {j k : Nat} {A : Around} (r : Room k A) (h : j ≤ k) : Room j A := ⟨r.hd, by have := r.dp; omega, by have := r.un; omega⟩
theorem Room.deeper {k : Nat} {A : Around} (r : Room (k + 1) A) (env : Env) : Room k (A.deeper env) :=
  ⟨r.hd, by have := r.dp; show A.depth + 1 + 3 * k + 5 < _; omega, by have := r.un; show A.units + 3 + 16 * k + 200 < _; omega⟩
theorem make_depth {A : Around} {C : Addr} {us : List Value} {kw : List (Str × Value)} : (A.under (.builtin "type.__call__" ⟨.ref C :: us, kw⟩)).depth = A.depth + 1 := by
  first | rfl | simp [Around.under, Code.weight, Code.isCreation, Code.isGuard, Code.isCaller, Code.frames, Code.isFrame, guardIds]
theorem make_units {A : Around} {C : Addr} {us : List Value} {kw : List (Str × Value)} : (A.under (.builtin "type.__call__" ⟨.ref C :: us, kw⟩)).units = A.units + 1 := by
  first | rfl | simp [Around.under, Code.cUnits, Code.frames, Code.isFrame]
theorem Room.make {k : Nat} {A : Around} (r : Room (k + 1) A) (C : Addr) (us : List Value) (kw : List (Str × Value)) : Room k (A.under (.builtin "type.__call__" ⟨.ref C :: us, kw⟩)) :=
  ⟨r.hd, by have := r.dp; rw [make_depth]; omega, by have := r.un; rw [make_units]; omega⟩
theorem Room.depth {k : Nat} {A : Around} (r : Room k A) : A.depth < recursionLimit := by have := r.dp; omega
theorem Room.units {k : Nat} {A : Around} (r : Room k A) : A.units + 64 < cLine := by have := r.un; omega
def tNil : TA := fun _ H Q => Q [] H
def tCons (ta : TE) (tr : TA) : TA := fun σ H Q => ta σ H fun x H1 => tr σ H1 fun xs H2 => Q (x :: xs) H2
section
variable {X : Cx} {e : Expr} {es : List Expr} {te : TE} {t : TA} {pos : Pos}
theorem pa_nil : PA X [] tNil := fun _ _ _ _ H Q I h => Calls.spliced_nil ⟨[], H, I, .nil, h⟩
theorem pa_cons (ha : PE X e te) (hr : PA X es t) (hs : starEach (e :: es) X.env = (false, eval e X.env) :: starEach es X.env := by rfl) : PA X (e :: es) (tCons te t) := by
  intro pos pins s σ H Q I h
  rw [hs]
  show wpAny _ _ (spliced ((false, eval e X.env) :: backTo pos (starEach es X.env))) _ _ s
  refine Calls.spliced_cons (thn (ha pins s σ H _ I h) fun u s1 ⟨x, H1, I1, r1, q1⟩ => ?_)
  exact thn (hr pos pins s1 σ H1 _ I1 q1) fun us s2 ⟨xs, H2, I2, r2, q2⟩ => ⟨x :: xs, H2, I2, .cons r1 r2, q2⟩
def tLst (t : TA) : TE := fun σ H Q => t σ H fun xs H1 => xs.length ≤ sizeLine ∧ ∀ p, H1 p = none → Q (.ref p) (upd H1 p (.lst xs))
theorem pe_lst (h : PA X es t) : PE X (.List es pos) (tLst t) := by
  intro pins s σ H Q I hq
  refine wpAny_List_spliced (thn (h pos pins s σ H _ I hq) fun us s1 ⟨xs, H1, I1, r, z, q⟩ => ⟨by rw [← r.length]; exact z, ?_⟩)
  have hf : H1 s1.heap.objs.size = none := I1.hok.fresh (Nat.le_refl _)
  refine ⟨.ref s1.heap.objs.size, upd H1 s1.heap.objs.size (.lst xs), I1.laid (t' := s1.toks) (fun b u e => Heap.get?_push_of_some _ e) (Nat.le_refl _) ?_, rfl, q _ hf⟩
  exact ⟨z, us, 0, r, Heap.get?_push_size _ rfl⟩
end
abbrev Sp := List V → Hp → VK → XK → Prop
abbrev CXT := List Env → Hp → Shared → XK → Value → Shared → Prop
structure Env0 (P : Program) (w : World) (K : PySem.W.Frag) (mg : Str → Option Value) (base : Heap) (A : Around) (outer : List Env) (s : Shared) (H : Hp) : Prop where
  frames : A.frames = some outer
  mod : Mod K mg base
  bs : ∀ b o, base.get? b = some o → s.heap.get? b = some o ∧ H b = none
  bsz : base.objs.size ≤ s.heap.objs.size
  funs : s.heap.FunFrames base outer
  frf : ∀ b ∈ frs outer, H b = none
  hok : HOk P w H s.heap
  bare : AllBare s.gens
def CE (outer : List Env) (P : Program) (w : World) (H : Hp) (s : Shared) (Q : VK) (u : Value) (s' : Shared) : Prop :=
  ∃ v H', s'.os = s.os ∧ AllBare s'.gens ∧ Un (frs outer) [] H H' s.heap s'.heap ∧ HOk P w H' s'.heap ∧ RelV v u ∧ Q v H'
def CR (CX : CXT) (outer : List Env) (P : Program) (w : World) (H : Hp) (s : Shared) (Q : VK) (E : XK) (r : Result) (s' : Shared) : Prop :=
  match r with
  | .ok (.ret u) => CE outer P w H s Q u s'
  | .ok _ => False
  | .error e => CX outer H s E e s'
structure FnOk (P : Program) (w : World) (K : PySem.W.Frag) (mg : Str → Option Value) (base : Heap) (CX : CXT) (k : Nat) (f : Addr) (fd : FuncData) (ps : List Str) (sp : Sp) : Prop where
  len : ∀ vs H Q E, sp vs H Q E → vs.length = ps.length
  run : ∀ (A : Around) (outer : List Env) (s : Shared) (H : Hp) (args : Args) (us : List Value) (vs : List V) (Q : VK) (E : XK), Room k A → Env0 P w K mg base A outer s H → BindsTo s fd args (ps.zip us) → Vals vs us → sp vs H Q E →
    codeAny (model P w) A (.call (.ref f) args) (CR CX outer P w H s Q E) s
theorem Env0.make {P : Program} {w : World} {K : PySem.W.Frag} {mg : Str → Option Value} {base : Heap} {A : Around} {outer : List Env} {s : Shared} {H : Hp} (e : Env0 P w K mg base A outer s H) (C : Addr) (us : List Value) (kw : List (Str × Value)) :
    Env0 P w K mg base (A.under (.builtin "type.__call__" ⟨.ref C :: us, kw⟩)) outer s H := ⟨by first | exact e.frames | (simpa [Around.under, Code.envs, Code.isFrame, pushEnvs] using e.frames), e.mod, e.bs, e.bsz, e.funs, e.frf, e.hok, e.bare⟩
section
variable {X : Cx} {pins : List (Addr × Obj)} {σ : St} {H : Hp} {s s' : Shared}
theorem Inv.env0 (I : Inv X pins σ H s) : Env0 X.prog X.w X.K X.mg X.base X.A X.stack s H :=
  ⟨I.ok.frames, I.ok.mod, I.bs, Nat.le_trans I.ok.bsz I.sz, I.stack, I.stkFree, I.hok, I.bare⟩
theorem Inv.after {Q : VK} {u : Value} (I : Inv X pins σ H s) (h : CE X.stack X.prog X.w H s Q u s') : EP X pins σ Q u s' := by
  obtain ⟨v, H', os, bare, un, hok, r, q⟩ := h
  obtain ⟨hh, g, d, t, os'⟩ := s'
  obtain rfl : os' = s.os := os
  exact ⟨v, H', I.call (h' := hh) (g' := g) (d' := d) (t' := t) (ch := []) un hok bare (fun b z => absurd z (by simp)), r, q⟩
end
def tCall (sp : Sp) (dvs : List V) (E : XK) (t : TA) : TE := fun σ H Q => t σ H fun vs H1 => sp (vs ++ dvs) H1 Q E
def tMeth (C : Addr) (m : Str) (sp : Sp) (dvs : List V) (E : XK) (ta : TE) (t : TA) : TE := fun σ H Q => ta σ H fun x H1 => ∃ a dx fs, x = .ref a ∧ H1 a = some (.ins C dx fs) ∧ fs.lookup m = none ∧
  t σ H1 fun vs H2 => sp (x :: (vs ++ dvs)) H2 Q E
def tMake (C : Addr) (sp : Sp) (dvs : List V) (E : XK) (t : TA) : TE := fun σ H Q => t σ H fun vs H1 => ∀ x dx, H1 x = none → H1 dx = none → dx ≠ x →
  sp (.ref x :: (vs ++ dvs)) (upd (upd H1 dx (.own x)) x (.ins C dx [])) (fun v H2 => v = .non ∧ Q (.ref x) H2) E
def Binds (K : PySem.W.Frag) (fd : FuncData) (ps : List Str) (ds : List Value) : Prop :=
  ∀ (s : Shared) (us : List Value), K.In s.heap → (us ++ ds).length = ps.length → BindsTo s fd ⟨us, []⟩ (ps.zip (us ++ ds))
theorem Binds.all {K : PySem.W.Frag} {fd : FuncData} {ps : List Str} (h : ∀ us : List Value, us.length = ps.length → bindArgs fd ⟨us, []⟩ = pure (ps.zip us)) : Binds K fd ps [] := fun s us _ hl => by
  rw [List.append_nil] at hl ⊢
  exact .of_eq (h us hl)
def Passes (CX : CXT) (X : Cx) (E : XK) : Prop := ∀ (pins : List (Addr × Obj)) (σ : St) (H : Hp) (s : Shared) (e : Value) (s' : Shared), Inv X pins σ H s → CX X.stack H s E e s' → X.xe e s'
section
variable {X : Cx} {CX : CXT} {k : Nat} {f C : Addr} {fd : FuncData} {ps : List Str} {sp : Sp} {dvs : List V} {ds : List Value} {E : XK} {x m : Str} {p pos apos : Pos} {e o : Expr} {es : List Expr} {ta : TE} {t : TA}
theorem run_fn {pins : List (Addr × Obj)} {σ : St} {H : Hp} {s : Shared} {Q : VK} {us : List Value} {vs : List V} (F : FnOk X.prog X.w X.K X.mg X.base CX k f fd ps sp) (hr : Room k X.A) (hb : Binds X.K fd ps ds) (hd : Vals dvs ds) (hx : Passes CX X E)
    (I : Inv X pins σ H s) (r : Vals vs us) (h : sp (vs ++ dvs) H Q E) : wpAny (model X.prog X.w) X.A (call (.ref f) us) (EP X pins σ Q) X.xe s := by
  have r2 : Vals (vs ++ dvs) (us ++ ds) := r.append hd
  have hl : (us ++ ds).length = ps.length := by rw [← r2.length]; exact F.len _ _ _ _ h
  refine wpAny_call (codeAny_mono (F.run X.A X.stack s H ⟨us, []⟩ (us ++ ds) (vs ++ dvs) Q E hr I.env0 (hb s us I.kIn hl) r2 h) fun r s' hq => ?_)
  cases r with
  | error e => exact hx pins σ H s e s' I hq
  | ok fl =>
    cases fl with
    | ret u => exact I.after hq
    | next => exact False.elim hq
    | brk => exact False.elim hq
    | cont => exact False.elim hq
theorem pe_call (F : FnOk X.prog X.w X.K X.mg X.base CX k f fd ps sp) (hr : Room k X.A) (hg : Gl X x) (hm : X.mg x = some (.ref f)) (hk : PySem.W.keepIn X.K (.ref f) = true) (hb : Binds X.K fd ps ds) (hd : Vals dvs ds) (hx : Passes CX X E)
    (ha : PA X (e :: es) t) (hdb : (x == ("__debug__" : Str)) = false := by decide) (he : starEach (e :: es) X.env = (false, eval e X.env) :: starEach es X.env := by rfl) (hpl : (backTo pos (starEach es X.env)).any (·.1) = false := by rfl) :
    PE X (.Call (.Name x p) (e :: es) [] pos) (tCall sp dvs E t) := by
  intro pins s σ H Q I h
  refine wpAny_Call_Name_kw (ld_glob I hg hm ?_ hdb)
  refine PySem.W.callWith_K (h₀ := X.base) I.ok.mod.kin hk (thn (ha pos pins s σ H _ I h) fun us s1 ⟨vs, H1, I1, r, q⟩ => ⟨I1.kIn, ?_⟩) he hpl
  exact run_fn F hr hb hd hx I1 r q
theorem pe_meth {pl : Sem Bool} (he : PE X o ta) (c : Cls X.K C) (hm : Meth X.K C m f) (F : FnOk X.prog X.w X.K X.mg X.base CX k f fd ps sp) (hr : Room k X.A) (hb : Binds X.K fd ps ds) (hd : Vals dvs ds) (hx : Passes CX X E) (ha : PA X (e :: es) t)
    (hst : starEach (e :: es) X.env = (false, eval e X.env) :: starEach es X.env := by rfl) (hpl : (backTo pos (starEach es X.env)).any (·.1) = false := by rfl)
    (ht : eval (.Call (.Attribute o m apos) (e :: es) [] pos) X.env = (do
      let ov ← eval o X.env
      standAt apos.atName
      let (f, first) ← holding [ov] (getMethod ov m pl)
      callWith pos f first (backTo pos (starEach (e :: es) X.env)) (backToKw pos (keywordEach [] X.env))) := by rfl) :
    PE X (.Call (.Attribute o m apos) (e :: es) [] pos) (tMeth C m sp dvs E ta t) := by
  intro pins s σ H Q I h
  refine PySem.W.methodCall_KW (pl := pl) (thn (he pins s σ H _ I h) fun u s1 ⟨x, H1, I1, rx, a, dx, fs, ex, ea, l, q⟩ => ?_) ht
  subst ex
  obtain rfl : u = Value.ref a := rx
  refine getmeth_ok I1 ea c hm l ?_
  refine PySem.W.callWith_K (first := [.ref a]) (h₀ := X.base) I.ok.mod.kin hm.kp (thn (ha pos pins s1 σ H1 _ I1 q) fun us s2 ⟨vs, H2, I2, r, q2⟩ => ⟨I2.kIn, ?_⟩) hst hpl
  exact run_fn (us := .ref a :: us) (vs := .ref a :: vs) F hr hb hd hx I2 (.cons rfl r) q2
theorem pe_meth0 {pl : Sem Bool} (he : PE X o ta) (c : Cls X.K C) (hm : Meth X.K C m f) (F : FnOk X.prog X.w X.K X.mg X.base CX k f fd ps sp) (hr : Room k X.A) (hb : Binds X.K fd ps ds) (hd : Vals dvs ds) (hx : Passes CX X E)
    (ht : eval (.Call (.Attribute o m apos) [] [] pos) X.env = (do
      let ov ← eval o X.env
      standAt apos.atName
      let (f, first) ← holding [ov] (getMethod ov m pl)
      callWith pos f first (backTo pos (starEach [] X.env)) (backToKw pos (keywordEach [] X.env))) := by rfl) :
    PE X (.Call (.Attribute o m apos) [] [] pos) (tMeth C m sp dvs E ta tNil) := by
  intro pins s σ H Q I h
  refine PySem.W.methodCall_KW (pl := pl) (thn (he pins s σ H _ I h) fun u s1 ⟨x, H1, I1, rx, a, dx, fs, ex, ea, l, q⟩ => ?_) ht
  subst ex
  obtain rfl : u = Value.ref a := rx
  refine getmeth_ok I1 ea c hm l ?_
  exact PySem.W.callWith_K0 (first := [.ref a]) I1.kIn hm.kp (run_fn (us := [.ref a]) (vs := [.ref a]) F hr hb hd hx I1 (.cons rfl .nil) q)
structure Mk (K : PySem.W.Frag) (C f : Addr) : Prop where
  makes : PySem.W.makesIn K C = true
  init : PySem.W.findIn K (.ref C) "__init__" = some (some (.ref f))
  fn : PySem.W.isFn K (.ref f) = true
  kp : PySem.W.keepIn K (.ref C) = true
theorem run_make {pins : List (Addr × Obj)} {σ : St} {H : Hp} {s : Shared} {Q : VK} {us : List Value} {vs : List V} (M : Mk X.K C f) (F : FnOk X.prog X.w X.K X.mg X.base CX k f fd ps sp) (hr : Room (k + 1) X.A) (hb : Binds X.K fd ps ds) (hd : Vals dvs ds)
    (hx : Passes CX X E) (I : Inv X pins σ H s) (r : Vals vs us)
    (h : ∀ x dx, H x = none → H dx = none → dx ≠ x → sp (.ref x :: (vs ++ dvs)) (upd (upd H dx (.own x)) x (.ins C dx [])) (fun v H2 => v = .non ∧ Q (.ref x) H2) E) :
    wpAny (model X.prog X.w) X.A (call (.ref C) us) (EP X pins σ Q) X.xe s := by
  have hq := h (s.heap.objs.size + 1) s.heap.objs.size (I.hok.fresh (Nat.le_succ _)) (I.hok.fresh (Nat.le_refl _)) (Nat.ne_of_lt (Nat.lt_succ_self _))
  have I2 := Inv.made (C := C) I
  have r2 : Vals (V.ref (s.heap.objs.size + 1) :: (vs ++ dvs)) (Value.ref (s.heap.objs.size + 1) :: (us ++ ds)) := .cons rfl (r.append hd)
  have hl : (Value.ref (s.heap.objs.size + 1) :: us ++ ds).length = ps.length := by
    have e := r2.length
    rw [F.len _ _ _ _ hq] at e
    exact e.symm
  refine wpAny_call (make_map (f := f) I.kIn M.makes M.init (beq_iff_eq.mp M.fn) (codeAny_mono (F.run _ X.stack _ _ ⟨Value.ref (s.heap.objs.size + 1) :: us, []⟩ (Value.ref (s.heap.objs.size + 1) :: (us ++ ds)) _ _ E (hr.make C us [])
    (I2.env0.make C us []) (hb _ (Value.ref (s.heap.objs.size + 1) :: us) I2.kIn hl) r2 hq) fun r s' hq' => ?_))
  cases r with
  | error e => exact hx pins σ _ _ e s' I2 hq'
  | ok fl =>
    cases fl with
    | ret u =>
      obtain ⟨v, H', I3, rv, ev, q3⟩ := I2.after hq'
      subst ev
      exact ⟨rv, ⟨V.ref (s.heap.objs.size + 1), H', I3, rfl, q3⟩⟩
    | next => exact False.elim hq'
    | brk => exact False.elim hq'
    | cont => exact False.elim hq'
theorem pe_make (M : Mk X.K C f) (F : FnOk X.prog X.w X.K X.mg X.base CX k f fd ps sp) (hr : Room (k + 1) X.A) (hg : Gl X x) (hm : X.mg x = some (.ref C)) (hb : Binds X.K fd ps ds) (hd : Vals dvs ds) (hx : Passes CX X E)
    (ha : PA X (e :: es) t) (hdb : (x == ("__debug__" : Str)) = false := by decide) (he : starEach (e :: es) X.env = (false, eval e X.env) :: starEach es X.env := by rfl) (hpl : (backTo pos (starEach es X.env)).any (·.1) = false := by rfl) :
    PE X (.Call (.Name x p) (e :: es) [] pos) (tMake C sp dvs E t) := by
  intro pins s σ H Q I h
  refine wpAny_Call_Name_kw (ld_glob I hg hm ?_ hdb)
  refine PySem.W.callWith_K (h₀ := X.base) I.ok.mod.kin M.kp (thn (ha pos pins s σ H _ I h) fun us s1 ⟨vs, H1, I1, r, q⟩ => ⟨I1.kIn, ?_⟩) he hpl
  exact run_make M F hr hb hd hx I1 r q
end
section
variable {X : Cx} {CX : CXT} {k : Nat} {f C : Addr} {fd : FuncData} {ps ks : List Str} {sp : Sp} {E : XK} {x m : Str} {p pos apos kpos : Pos} {e o : Expr} {es : List Expr} {kws : List Keyword} {te ta : TE} {t tk : TA} {nm : Option Str}
variable {g : List Value → List Value → List Value} {gV : List V → List V → List V}
end
structure FnScope (N P : List Str) (sc : Scope) : Prop where
  kind : sc.kind = .function
  co : sc.isCoroutine = false
  gen : sc.isGenerator = false
  nd : N.Nodup
  pre : N.take P.length = P
  par : ∀ x ∈ P, sc.names.lookup x = some .local ∨ sc.names.lookup x = some .cell
  nofree : ∀ y ∈ sc.names, y.2 ≠ .free
theorem bindL_out {kindOf : Str → Option NameKind} {x : Str} : ∀ {binds : List (Str × Value)} {m : Str → Option Value}, (∀ v, (x, v) ∉ binds) → bindL kindOf binds m x = m x
  | [], _, _ => rfl
  | (n, v) :: r, m, h => by
    unfold bindL
    rw [bindL_out fun w hw => h w (List.mem_cons_of_mem _ hw)]
    split
    · have : x ≠ n := by rintro rfl; exact h v List.mem_cons_self
      simp [this]
    · rfl
theorem bindC_out {kindOf : Str → Option NameKind} {x : Str} : ∀ {binds : List (Str × Value)} {m : Str → Option Value}, (∀ v, (x, v) ∉ binds) → bindC kindOf binds m x = m x
  | [], _, _ => rfl
  | (n, v) :: r, m, h => by
    unfold bindC
    rw [bindC_out fun w hw => h w (List.mem_cons_of_mem _ hw)]
    split
    · rfl
    · have : x ≠ n := by rintro rfl; exact h v List.mem_cons_self
      simp [this]
theorem bindL_get {kindOf : Str → Option NameKind} {x : Str} {v : Value} : ∀ {P : List Str} {vs : List Value} {i : Nat} {m : Str → Option Value}, P.Nodup → P[i]? = some x → vs[i]? = some v → kindOf x = some .local →
    bindL kindOf (P.zip vs) m x = some v
  | [], _, _, _, _, h, _, _ => by simp at h
  | _ :: _, [], _, _, _, _, h, _ => by simp at h
  | p :: P, w :: vs, 0, m, nd, h1, h2, hk => by
    simp at h1 h2; subst h1; subst h2
    show bindL kindOf ((p, w) :: P.zip vs) m p = _
    unfold bindL
    rw [bindL_out fun v hv => (List.nodup_cons.mp nd).1 (List.of_mem_zip hv).1, if_pos hk]
    simp
  | p :: P, w :: vs, i + 1, m, nd, h1, h2, hk => by
    show bindL kindOf ((p, w) :: P.zip vs) m x = _
    unfold bindL
    exact bindL_get (i := i) (List.nodup_cons.mp nd).2 (by simpa using h1) (by simpa using h2) hk
theorem bindC_get {kindOf : Str → Option NameKind} {x : Str} {v : Value} : ∀ {P : List Str} {vs : List Value} {i : Nat} {m : Str → Option Value}, P.Nodup → P[i]? = some x → vs[i]? = some v → kindOf x ≠ some .local →
    bindC kindOf (P.zip vs) m x = some v
  | [], _, _, _, _, h, _, _ => by simp at h
  | _ :: _, [], _, _, _, _, h, _ => by simp at h
  | p :: P, w :: vs, 0, m, nd, h1, h2, hk => by
    simp at h1 h2; subst h1; subst h2
    show bindC kindOf ((p, w) :: P.zip vs) m p = _
    unfold bindC
    rw [bindC_out fun v hv => (List.nodup_cons.mp nd).1 (List.of_mem_zip hv).1, if_neg hk]
    simp
  | p :: P, w :: vs, i + 1, m, nd, h1, h2, hk => by
    show bindC kindOf ((p, w) :: P.zip vs) m x = _
    unfold bindC
    exact bindC_get (i := i) (List.nodup_cons.mp nd).2 (by simpa using h1) (by simpa using h2) hk
def start (N : List Str) (vs : List V) : St := vs.map some ++ List.replicate (N.length - vs.length) none
def cxOf (CX : CXT) (P : Program) (w : World) (K : PySem.W.Frag) (mg : Str → Option Value) (base : Heap) (N : List Str) (qual : Str) (scope : Scope) (f : Addr) (cd : Value) (A : Around) (outer : List Env) (s : Shared) (H : Hp) (E : XK) : Cx where
  prog := P
  w := w
  K := K
  mg := mg
  base := base
  A := A.deeper (envOfC qual scope s.heap.objs.size f cd)
  N := N
  s₀ := s
  H₀ := H
  env := envOfC qual scope s.heap.objs.size f cd
  outer := outer
  stack := envOfC qual scope s.heap.objs.size f cd :: outer
  ex := []
  calm := true
  fn := fun _ => true
  pn := []
  xe := fun e s' => wpAny (model P w) (A.deeper (envOfC qual scope s.heap.objs.size f cd)) (leaving (envOfC qual scope s.heap.objs.size f cd) e) (fun _ s'' => CX outer H s E e s'') (fun e' s'' => CX outer H s E e' s'') s'
theorem cell_has {sc : Scope} {n : Nat} {x : Str} (h : sc.names.lookup x = some .cell) : ∃ c, (cellsFrom n sc.names []).lookup x = some c := by
  have q := PySem.W.cellsFrom_some sc.names n [] (.inl h)
  exact Option.isSome_iff_exists.mp q
theorem inv_start {CX : CXT} {P : Program} {w : World} {K : PySem.W.Frag} {mg : Str → Option Value} {base : Heap} {N ps : List Str} {qual : Str} {scope : Scope} {f : Addr} {cd : Value} {A : Around} {outer : List Env} {s s1 : Shared} {H : Hp} {E : XK} {us : List Value} {vs : List V}
    (S : FnScope N ps scope) (hd : A.handled = none) (e0 : Env0 P w K mg base A outer s H) (hl : vs.length = ps.length) (r : Vals vs us)
    (x : InCallC s s.heap.objs.size (bindL (envOfC qual scope s.heap.objs.size f cd).kindOf (ps.zip us) fun _ => none) (cellsFrom (s.heap.objs.size + 1) scope.names []) (bindC (envOfC qual scope s.heap.objs.size f cd).kindOf (ps.zip us) fun _ => none) s1) :
    Inv (cxOf CX P w K mg base N qual scope f cd A outer s H E) [] (start N vs) H s1 := by
  have hpl : ps.length ≤ N.length := by have := congrArg List.length S.pre; rw [List.length_take] at this; omega
  obtain ⟨h1, tk, rfl, hk⟩ := x.done
  have noA : ∀ b : Addr, b ∉ (cxOf CX P w K mg base N qual scope f cd A outer s H E).ex := fun b z => absurd (show b ∈ ([] : List Addr) from z) (by simp)
  refine ⟨⟨e0.mod, S.kind, rfl, rfl, Nat.le_refl _, fun y z c h1 h2 => ?_, fun y hy => ?_, fun y c _ h => ?_, fun _ => hd, Around.frames_deeper e0.frames, .inr ⟨rfl, rfl⟩, fun b z => absurd z (noA b), e0.bs, e0.bsz, fun b _ _ => noA b, fun b z => absurd z (noA b), e0.funs, e0.frf⟩,
    rfl, e0.bare, Un.kept hk, ⟨_, x.toInCall.ns, fun i y v h1 h2 h3 => ?_⟩, fun y c h => ⟨_, x.cell y c h⟩, e0.hok.fresh (Nat.le_refl _), fun y c h => ?_, fun p hp => absurd (show p ∈ ([] : List (Addr × Obj)) from hp) (by simp), e0.hok.kept hk, ?_⟩
  · exact name_of_addr x.apart (PySem.mem_of_lookup h1) (PySem.mem_of_lookup h2)
  · have hy : scope.names.lookup y = some .cell ∨ scope.names.lookup y = some .free := hy
    rcases hy with hy | hy
    · exact cell_has hy
    · exact absurd rfl (S.nofree _ (PySem.mem_of_lookup hy))
  · exact Nat.le_of_lt (x.above y c (PySem.mem_of_lookup h))
  · have hi : i < vs.length := by
      unfold start at h2
      by_cases hi : i < vs.length
      · exact hi
      · rw [List.getElem?_append_right (by simpa using hi)] at h2
        rw [List.getElem?_replicate] at h2
        split at h2 <;> cases h2
    have ha : vs[i]? = some v := by
      unfold start at h2
      rw [List.getElem?_append_left (by simpa using hi), List.getElem?_map] at h2
      cases e : vs[i]? with
      | none => rw [e] at h2; cases h2
      | some a => rw [e] at h2; cases h2; rfl
    obtain ⟨u, hu, rv⟩ := r.get ha
    have hp : ps[i]? = some y := by
      rw [← S.pre, List.getElem?_take_of_lt (by omega)]; exact h1
    have ndP : ps.Nodup := by rw [← S.pre]; exact S.nd.sublist (List.take_sublist _ _)
    refine ⟨u, rv, ?_⟩
    rcases S.par y (List.mem_of_getElem? hp) with k | k
    · exact .inl ⟨k, bindL_get ndP hp hu k⟩
    · obtain ⟨c, e⟩ := cell_has (n := s.heap.objs.size + 1) k
      refine .inr ⟨.inl k, c, e, ?_⟩
      have q := x.cell y c e
      rw [bindC_get ndP hp hu (by show scope.names.lookup y ≠ _; rw [k]; decide)] at q
      exact q
  · exact e0.hok.fresh (Nat.le_of_lt (x.above y c (PySem.mem_of_lookup h)))
  · unfold start
    show _ = N.length
    rw [List.length_append, List.length_map, List.length_replicate]
    omega
theorem fn_of {CX : CXT} {P : Program} {w : World} {K : PySem.W.Frag} {mg : Str → Option Value} {base : Heap} {k : Nat} {f : Addr} {name qual : Str} {params : Arguments} {body : List Stmt} {scope : Scope} {dV kV doc pm cdv ct oc : Value} {an od : Option Addr}
    {osl : Array (Option Value)} {N ps : List Str} {sp : Sp} (lk : K.lookup f = some ⟨oc, od, .func (PySem.W.fnOf name qual params body scope dV kV doc pm an cdv ct), osl⟩) (hcd : PySem.W.codeIn K cdv qual = true) (S : FnScope N ps scope)
    (len : ∀ vs H Q E, sp vs H Q E → vs.length = ps.length)
    (hbody : ∀ (A : Around) (outer : List Env) (s : Shared) (H : Hp) (vs : List V) (Q : VK) (E : XK), Room k (A.deeper (envOfC qual scope s.heap.objs.size f cdv)) → sp vs H Q E →
      ∃ t, PSs (cxOf CX P w K mg base N qual scope f cdv A outer s H E) body t ∧ t { nx := fun _ H' => Q .non H', rt := Q } (start N vs) H) :
    FnOk P w K mg base CX (k + 1) f (PySem.W.fnOf name qual params body scope dV kV doc pm an cdv ct) ps sp := by
  refine ⟨len, fun A outer s H args us vs Q E hr e0 hb r hsp => ?_⟩
  have hl := len _ _ _ _ hsp
  have KX : K.In s.heap := e0.mod.kin.keeps fun b o e => (e0.bs b o e).1
  have lim : s.heap.NoLimit := e0.mod.nolimit.keeps fun b o e => (e0.bs b o e).1
  have hkind : ∀ y ∈ ps.zip us, scope.names.lookup y.1 = some .local ∨ (scope.names.lookup y.1 = some .cell ∧ ((cellsFrom (s.heap.objs.size + 1) scope.names []).lookup y.1).isSome = true) := fun ⟨n, v⟩ hy => by
    rcases S.par n (List.of_mem_zip hy).1 with q | q
    · exact .inl q
    · exact .inr ⟨q, PySem.W.cellsFrom_some _ _ _ (.inl q)⟩
  refine codeAny_call_function hr.depth (KX _ _ lk) rfl S.co S.gen rfl (PySem.W.codeRec_of KX hcd) (hb _ _ _ _ ?_)
  refine wpAny_newFunctionEnv_cells S.kind hkind fun env he s1 x => ?_
  subst he
  refine ⟨lim.keeps x.toInCall.keep, codeAny_func ?_⟩
  obtain ⟨t, ht, hq⟩ := hbody A outer s H vs Q E (hr.deeper _) hsp
  have I : Inv (cxOf CX P w K mg base N qual scope f cdv A outer s H E) [] (start N vs) H s1 := inv_start S hr.hd e0 hl r x
  refine wpAny_mono (ht [] s1 (start N vs) H _ I hq) (fun fl s' hs => ?_) fun e s' hs => hs
  have fin : ∀ {σ' : St} {H' : Hp} {v : V} {u : Value}, Inv (cxOf CX P w K mg base N qual scope f cdv A outer s H E) [] σ' H' s' → RelV v u → Q v H' → CE outer P w H s Q u s' :=
    fun {σ' H' v u} J rv q => ⟨v, H', J.os, J.bare, J.base, J.hok, rv, q⟩
  cases fl with
  | ret u =>
    obtain ⟨v, σ', H', J, rv, q⟩ := hs
    exact fin J rv q
  | next =>
    obtain ⟨σ', H', J, q⟩ := hs
    exact fin (v := V.non) (u := Value.none) J rfl q
  | brk =>
    obtain ⟨_, _, _, q⟩ := hs
    exact False.elim q
  | cont =>
    obtain ⟨_, _, _, q⟩ := hs
    exact False.elim q
end L2
namespace L2
open PySem PySem.Spec PyProof.Rows
section
variable {X : Cx} {x : Str} {p pos : Pos} {e : Expr} {es : List Expr} {t : TA} {id T : String} {r : List V → Hp → VK → Prop}
def tCB (r : List V → Hp → VK → Prop) (t : TA) : TE := fun σ H Q => t σ H fun vs H1 => r vs H1 Q
theorem pe_callB (hc : CallR X (.builtin id) r) (hg : Gl X x) (hm : X.mg x = none) (hv : bootBuiltins x = some (.builtin id)) (ha : PA X (e :: es) t) (hn : x ≠ "__name__" := by decide) (hdb : (x == ("__debug__" : Str)) = false := by decide)
    (he : starEach (e :: es) X.env = (false, eval e X.env) :: starEach es X.env := by rfl) (hpl : (backTo pos (starEach es X.env)).any (·.1) = false := by rfl) : PE X (.Call (.Name x p) (e :: es) [] pos) (tCB r t) := by
  intro pins s σ H Q I h
  refine wpAny_Call_Name_kw (ld_blt I hg hm hv ?_ hn hdb)
  exact PyProof.Rows.callWith_builtin1 (thn (ha pos pins s σ H _ I h) fun us s1 ⟨vs, H1, I1, r1, q1⟩ => hc pins s1 σ H1 vs us Q I1 r1 q1) he hpl
theorem pe_callTy (hc : CallR X (.type T) r) (hg : Gl X x) (hm : X.mg x = none) (hv : bootBuiltins x = some (.type T)) (ha : PA X (e :: es) t) (hn : x ≠ "__name__" := by decide) (hdb : (x == ("__debug__" : Str)) = false := by decide)
    (he : starEach (e :: es) X.env = (false, eval e X.env) :: starEach es X.env := by rfl) (hpl : (backTo pos (starEach es X.env)).any (·.1) = false := by rfl) : PE X (.Call (.Name x p) (e :: es) [] pos) (tCB r t) := by
  intro pins s σ H Q I h
  refine wpAny_Call_Name_kw (ld_blt I hg hm hv ?_ hn hdb)
  exact PyProof.Rows.callWith_type1 (thn (ha pos pins s σ H _ I h) fun us s1 ⟨vs, H1, I1, r1, q1⟩ => hc pins s1 σ H1 vs us Q I1 r1 q1) he hpl
end
end L2
namespace HT
open PySem PyProof.Rows
section
open PySem.SeqAt
open PySem.AutoSeq1 (wpAny_loadPart')
open PySem.MeetsSeq PySem.MeetsSeq2 PySem.MeetsSeq3
end
section
variable {prog : Program} {w : World} {A : Around} {E : Value → Shared → Prop} {s : Shared}
def sIx (n d : Nat) : Option Int → Nat
  | none => d
  | some v => if v < 0 then (v + (n : Int)).toNat else min v.toNat n
theorem sIx_none (n d : Nat) : sIx n d none = d := rfl
theorem sIx_nat (n d k : Nat) : sIx n d (some (k : Int)) = min k n := by
  show (if (k : Int) < 0 then ((k : Int) + (n : Int)).toNat else min (k : Int).toNat n) = min k n
  rw [if_neg (by omega), Int.toNat_natCast]
end
end HT
namespace L2
open PySem PySem.Spec PyProof.Rows
abbrev TO := St → Hp → (Option Int → Hp → Prop) → Prop
def PO (X : Cx) (e : Option Expr) (t : TO) : Prop :=
  ∀ (pins : List (Addr × Obj)) (s : Shared) (σ : St) (H : Hp) (Q : Option Int → Hp → Prop), Inv X pins σ H s → t σ H Q →
    wpAny (model X.prog X.w) X.A (evalPart e X.env) (fun u s' => ∃ o H', Inv X pins σ H' s' ∧ IsPart u o ∧ Q o H') X.xe s
def tNoPart : TO := fun _ H Q => Q none H
def tPart (t : TE) : TO := fun σ H Q => t σ H fun x H1 => ∃ i, x = .int i ∧ Q (some i) H1
theorem intsAre_of {ns : List Int} : ∀ {us : List Value}, Vals (ns.map V.int) us → IntsAre us ns := by
  induction ns with
  | nil => intro us r; rw [List.map_nil] at r; cases r; exact .nil
  | cons n ns ih =>
    intro us r
    rw [List.map_cons] at r
    cases r with
    | cons r1 r2 =>
      obtain ⟨t, e⟩ := r1
      subst e
      exact .cons n t (ih r2)
section
variable {X : Cx} {e : Expr} {te : TE} {lo hi : Option Expr} {tl th : TO} {pos p2 : Pos}
theorem po_none : PO X none tNoPart := by
  intro pins s σ H Q I h
  rw [evalPart_none]
  exact wpAny_pure ⟨none, H, I, .none, h⟩
theorem po_some (h : PE X e te) : PO X (some e) (tPart te) := by
  intro pins s σ H Q I hw
  rw [evalPart_some]
  refine thn (h pins s σ H _ I hw) fun u s1 ⟨x, H1, I1, r1, q1⟩ => ?_
  obtain ⟨i, rfl, q⟩ := q1
  obtain ⟨t, rfl⟩ := r1
  exact ⟨some i, H1, I1, .int i t, q⟩
def SlR (X : Cx) (r : V → Option Int → Option Int → Hp → VK → Prop) : Prop :=
  ∀ (pins : List (Addr × Obj)) (s : Shared) (σ : St) (H : Hp) (x : V) (v vl vu : Value) (lo hi : Option Int) (sl : Addr) (Q : VK), Inv X pins σ H s → RelV x v → s.heap.IsSliceOf sl vl vu .none → IsPart vl lo → IsPart vu hi → r x lo hi H Q →
    ∃ T id, typeLookup (.type T) "__getitem__" = pure (some (.builtin id)) ∧ s.TypeIs v T ∧ wpAny (model X.prog X.w) X.A (getItem v (.ref sl)) (EP X pins σ Q) X.xe s
def tSl (r : V → Option Int → Option Int → Hp → VK → Prop) (te : TE) (tl th : TO) : TE := fun σ H Q => te σ H fun x H1 => tl σ H1 fun l H2 => th σ H2 fun u H3 => r x l u H3 Q
theorem pe_slice {r : V → Option Int → Option Int → Hp → VK → Prop} (hr : SlR X r) (he : PE X e te) (hl : PO X lo tl) (hu : PO X hi th) : PE X (.Subscript e (.Slice lo hi none p2) pos) (tSl r te tl th) := by
  intro pins s σ H Q I h
  refine Subscript_ (thn (he pins s σ H _ I h) fun v s1 ⟨x, H1, I1, r1, q1⟩ => ?_)
  refine wpAny_Slice (thn (hl pins s1 σ H1 _ I1 q1) fun vl s2 ⟨l, H2, I2, pl, q2⟩ => thn (hu pins s2 σ H2 _ I2 q2) fun vu s3 ⟨u, H3, I3, pu, q3⟩ => ?_)
  rw [evalPart_none]
  refine wpAny_pure ?_
  have I4 : Inv X pins σ H3 { s3 with heap := s3.heap.push { cls := .type "slice", data := .fields #[vl, vu, .none] } } := I3.kept (t' := s3.toks) fun b ob q => Heap.get?_push_of_some _ q
  obtain ⟨T, id, hT, ht, hg⟩ := hr pins { s3 with heap := s3.heap.push { cls := .type "slice", data := .fields #[vl, vu, .none] } } σ H3 x v vl vu l u s3.heap.objs.size Q I4 r1 (Heap.IsSliceOf.new ..) pl pu q3
  show wpAny (model X.prog X.w) X.A (subscriptTail e (.Slice lo hi none p2) v (.ref s3.heap.objs.size)) (EP X pins σ Q) X.xe { s3 with heap := s3.heap.push { cls := .type "slice", data := .fields #[vl, vu, .none] } }
  exact tail_any (ops := [.ref s3.heap.objs.size, v]) ht hT hg (by with_unfolding_all rfl)
def cutV (xs : List V) (lo hi : Option Int) : List V := (xs.drop (HT.sIx xs.length 0 lo)).take (HT.sIx xs.length xs.length hi - HT.sIx xs.length 0 lo)
theorem cutV_length (xs : List V) (lo hi : Option Int) : (cutV xs lo hi).length ≤ xs.length := by
  unfold cutV
  rw [List.length_take, List.length_drop]
  omega
end
end L2
namespace L2
open PySem PySem.Spec PyProof.Rows
def ixN (n : Nat) (i : Int) : Option Nat := if 0 ≤ i then (if i < n then some i.toNat else none) else if -(n : Int) ≤ i then some (i + n).toNat else none
def atI {α : Type} (xs : List α) (i : Int) : Option α := (ixN xs.length i).bind fun j => xs[j]?
theorem ixN_seq {n : Nat} {i : Int} {j : Nat} (h : ixN n i = some j) : seqIndex? i n = some j ∧ j < n ∧ -(n : Int) ≤ i ∧ i < n := by
  unfold ixN at h
  by_cases h0 : 0 ≤ i
  · rw [if_pos h0] at h
    by_cases h1 : i < n
    · rw [if_pos h1] at h
      have e : i.toNat = j := Option.some.inj h
      exact ⟨by rw [seqIndex_of h0 h1, e], by omega, by omega, h1⟩
    · rw [if_neg h1] at h; cases h
  · rw [if_neg h0] at h
    by_cases h1 : -(n : Int) ≤ i
    · rw [if_pos h1] at h
      have e : (i + n).toNat = j := Option.some.inj h
      exact ⟨by rw [seqIndex_neg (by omega) h1, e], by omega, h1, by omega⟩
    · rw [if_neg h1] at h; cases h
theorem atI_get {α : Type} {xs : List α} {i : Int} {v : α} (h : atI xs i = some v) : ∃ j, seqIndex? i xs.length = some j ∧ xs[j]? = some v ∧ j < xs.length ∧ -(xs.length : Int) ≤ i ∧ i < xs.length := by
  unfold atI at h
  cases e : ixN xs.length i with
  | none => rw [e] at h; cases h
  | some j =>
    rw [e] at h
    obtain ⟨h1, h2, h3, h4⟩ := ixN_seq e
    exact ⟨j, h1, h, h2, h3, h4⟩
theorem atI_nat {α : Type} {xs : List α} {j : Nat} {v : α} (h : xs[j]? = some v) : atI xs (j : Int) = some v := by
  have hj : j < xs.length := (List.getElem?_eq_some_iff.mp h).1
  have e : ixN xs.length (j : Int) = some j := by
    unfold ixN
    rw [if_pos (by omega), if_pos (by omega)]; simp
  unfold atI; rw [e]; exact h
def PlainIx (b : Expr) : Prop := ∀ o i, subscripted b false o i = operate [o, i] (getItem o i)
def IxR (X : Cx) (r : R2) : Prop :=
  ∀ (value slice : Expr) (pins : List (Addr × Obj)) (s : Shared) (σ : St) (H : Hp) (x y : V) (v u : Value) (Q : VK), Inv X pins σ H s → RelV x v → RelV y u → r x y H Q →
    subscripted slice false v u = operate [v, u] (getItem v u) → wpAny (model X.prog X.w) X.A (subscriptTail value slice v u) (EP X pins σ Q) X.xe s
def MtR (X : Cx) (id : String) (r : V → List V → Hp → VK → Prop) : Prop :=
  ∀ (pins : List (Addr × Obj)) (s : Shared) (σ : St) (H : Hp) (x : V) (xs : List V) (v : Value) (us : List Value) (Q : VK), Inv X pins σ H s → RelV x v → Vals xs us → r x xs H Q →
    wpAny (model X.prog X.w) X.A (call (.builtin id) (v :: us)) (EP X pins σ Q) X.xe s
section
variable {X : Cx} {a b : Expr} {ta tb : TE} {pos : Pos}
theorem pe_ix {r : R2} (hr : IxR X r) (ha : PE X a ta) (hb : PE X b tb) (hs : PlainIx b) : PE X (.Subscript a b pos) (tOp r ta tb) := by
  intro pins s σ H Q I h
  exact Subscript_ (binT ha hb I h fun v u s2 x y H2 I2 rx ry q => hr a b pins s2 σ H2 x y v u Q I2 rx ry q (hs _ _))
def rIxL (K : PySem.W.Frag) : R2 := fun x y H Q => ∃ p xs i v, x = .ref p ∧ y = .int i ∧ SqL K H p xs ∧ atI xs i = some v ∧ Q v H
def rIxS : R2 := fun x y H Q => ∃ z i c, x = .str z ∧ y = .int i ∧ z.length ≤ sizeLine ∧ atI z.cps.toList i = some c ∧ Q (.str ⟨#[c]⟩) H
theorem ix_list : IxR X (rIxL X.K) := by
  intro value slice pins s σ H x y v u Q I rx ry h hs
  obtain ⟨p, xs, i, z, rfl, rfl, hq, he, q⟩ := h
  cases rx
  obtain ⟨t, rfl⟩ := ry
  obtain ⟨its, r, pl, hz⟩ := I.list hq
  obtain ⟨j, h1, h2, h3, h4, h5⟩ := atI_get he
  obtain ⟨w, ew, rw'⟩ := r.get h2
  have hl := r.length
  have hn := line63
  have fin : EP X pins σ Q w s := ⟨z, H, I, rw', q⟩
  by_cases h0 : 0 ≤ i
  · have hj : i.toNat = j := by
      rw [seqIndex_of h0 h5] at h1
      exact Option.some.inj h1
    exact item_listR pl.isList h0 (by omega) (by rw [hj]; simpa using ew) fin hs
  · have hj : (i + (its.toArray.size : Int)).toNat = j := by
      rw [seqIndex_neg (by omega) h4] at h1
      rw [List.size_toArray, ← hl]
      exact Option.some.inj h1
    exact subscriptTail_builtinR (x := w) pl.isList.typeIs slot_list_getitem.lookup
      (wpAny_getItem_list_neg (Q := fun r s' => r = w ∧ EP X pins σ Q r s') pl.isList (by omega) (by rw [List.size_toArray] <;> omega) (by omega) (by rw [hj]; simpa using ew) ⟨rfl, fin⟩) hs
theorem ix_str : IxR X rIxS := by
  intro value slice pins s σ H x y v u Q I rx ry h hs
  obtain ⟨z, i, c, rfl, rfl, hz, he, q⟩ := h
  obtain ⟨t, rfl⟩ := rx
  obtain ⟨t', rfl⟩ := ry
  obtain ⟨j, h1, h2, h3, h4, h5⟩ := atI_get he
  have hl : z.cps.toList.length = z.length := by simp [Str.length]
  rw [hl] at h1 h4 h5
  have hn := line63
  exact tail_any (typeIs_str s z t) slot_str_getitem.lookup (getItem_str (c := c) (by
    have e1 : decide (i < -(2 ^ 63 : Int)) = false := decide_eq_false (by omega)
    have e2 : decide (i ≥ 2 ^ 63) = false := decide_eq_false (by omega)
    rw [e1, e2, Bool.or_false]) (by rw [h1]; simpa using h2) ⟨.str ⟨#[c]⟩, H, I.tok _, ⟨_, rfl⟩, q⟩) hs
theorem mapSeq_set (its : List Value) (n j : Nat) (u : Value) : Obj.mapSeq (·.setIfInBounds j u) { cls := .type "list", data := .seq its.toArray n } = { cls := .type "list", data := .seq (its.set j u).toArray n } := by
  simp [Obj.mapSeq]
theorem Inv.lst {pins : List (Addr × Obj)} {σ : St} {H : Hp} {s : Shared} {p : Addr} {xs : List V} (I : Inv X pins σ H s) (h : H p = some (.lst xs)) :
    ∃ (its : List Value) (n : Nat), Vals xs its ∧ s.heap.get? p = some { cls := .type "list", data := .seq its.toArray n } ∧ xs.length ≤ sizeLine := by
  obtain ⟨z, its, n, r, e⟩ := I.hok p _ h
  exact ⟨its, n, r, e, z⟩
theorem Inv.lstUpd {pins : List (Addr × Obj)} {σ : St} {H : Hp} {s : Shared} {p : Addr} {xs ys : List V} {its its' : List Value} {n n' : Nat} {f : Obj → Obj} (I : Inv X pins σ H s) (h : H p = some (.lst xs))
    (ho : s.heap.get? p = some { cls := .type "list", data := .seq its.toArray n }) (hf : f { cls := .type "list", data := .seq its.toArray n } = { cls := .type "list", data := .seq its'.toArray n' }) (r : Vals ys its') (hz : ys.length ≤ sizeLine) (t : Nat) :
    Inv X pins σ (upd H p (.lst ys)) { s with heap := s.heap.update p f, toks := t } := by
  have e : (s.heap.update p f).get? p = some { cls := .type "list", data := .seq its'.toArray n' } := by
    rw [Heap.get?_update_self f ho (by rw [hf] <;> rfl), hf]
  refine I.write (x := p) (e := p) (by rw [h]; trivial) (.inl rfl) (fun b u hb q => (Heap.get?_update_other _ _ (Ne.symm hb)).trans q) ⟨_, e⟩ ?_
  exact ⟨hz, its', n', r, e⟩
def rSetL : V → V → V → Hp → (Hp → Prop) → Prop := fun o i v H Q => ∃ p xs k j, o = .ref p ∧ i = .int k ∧ H p = some (.lst xs) ∧ ixN xs.length k = some j ∧ Q (upd H p (.lst (xs.set j v)))
theorem set_list : PSet X rSetL := by
  intro pins s σ H o i v ov iv u Q I ro ri rv h
  obtain ⟨p, xs, k, j, rfl, rfl, hp, hj, q⟩ := h
  cases ro
  obtain ⟨t, rfl⟩ := ri
  obtain ⟨its, n, r, ho, hz⟩ := I.lst hp
  obtain ⟨h1, h2, h3, h4⟩ := ixN_seq hj
  have hl := r.length
  have hn := line63
  have I' : Inv X pins σ (upd H p (.lst (xs.set j v))) { s with heap := s.heap.update p (Obj.mapSeq (·.setIfInBounds j u)) } :=
    I.lstUpd hp ho (mapSeq_set its n j u) (r.set rv j) (by rw [List.length_set]; exact hz) s.toks
  by_cases h0 : 0 ≤ k
  · have hk : k.toNat = j := by
      rw [seqIndex_of h0 h4] at h1
      exact Option.some.inj h1
    exact PySem.W.ki_setAt ho h0 (by omega) (by rw [List.size_toArray, ← hl]; exact h4) (by rw [hk]; exact ⟨_, I', q⟩)
  · have hk : (k + (its.toArray.size : Int)).toNat = j := by
      rw [seqIndex_neg (by omega) h3] at h1
      rw [List.size_toArray, ← hl]
      exact Option.some.inj h1
    exact PySem.W.ki_setBack ho (by omega) (by rw [List.size_toArray, ← hl]; exact h3) (by omega) (by rw [hk]; exact ⟨_, I', q⟩)
theorem slice_bounds (lo hi : Option Int) (n : Nat) : (sliceBounds lo hi none n).1 = ((HT.sIx n 0 lo : Nat) : Int) ∧ (sliceBounds lo hi none n).2.1 = ((HT.sIx n n hi : Nat) : Int) ∧ (sliceBounds lo hi none n).2.2 = 1 := by
  refine ⟨?_, ?_, rfl⟩
  · cases lo with
    | none => simp [sliceBounds, HT.sIx]
    | some i =>
      simp only [sliceBounds, HT.sIx, Option.getD_none, show (1 : Int) > 0 by decide, if_true]
      by_cases h : i < 0
      · simp only [h, if_true] <;> omega
      · simp only [h, if_false] <;> omega
  · cases hi with
    | none => simp [sliceBounds, HT.sIx]
    | some i =>
      simp only [sliceBounds, HT.sIx, Option.getD_none, show (1 : Int) > 0 by decide, if_true]
      by_cases h : i < 0
      · simp only [h, if_true] <;> omega
      · simp only [h, if_false] <;> omega
theorem slicePick_cut (its : List Value) (lo hi : Option Int) : slicePick its.toArray lo hi none = ((its.drop (HT.sIx its.length 0 lo)).take (HT.sIx its.length its.length hi - HT.sIx its.length 0 lo)).toArray := by
  obtain ⟨h1, h2, h3⟩ := slice_bounds lo hi its.toArray.size
  unfold slicePick
  rw [h1, h2, h3]
  simp only [sliceRange_one, pick_run, List.size_toArray] <;> rfl
def rSlL (K : PySem.W.Frag) : V → Option Int → Option Int → Hp → VK → Prop := fun x lo hi H Q => ∃ a xs, x = .ref a ∧ SqL K H a xs ∧ ∀ p, H p = none → Q (.ref p) (upd H p (.lst (cutV xs lo hi)))
theorem sl_list : SlR X (rSlL X.K) := by
  intro pins s σ H x v vl vu lo hi sl Q I rx hs pl pu h
  obtain ⟨a, xs, rfl, hx, q⟩ := h
  cases rx
  obtain ⟨its, r, ht, hz⟩ := I.list hx
  have hlen := r.length
  refine ⟨"list", _, slot_list_getitem.lookup, ht.isList.typeIs, ?_⟩
  refine wpAny_getItem_list_slice ht.isList hs pl pu .none (by simp) ?_ (by rw [List.size_toArray] <;> omega)
  rw [slicePick_cut, ← hlen]
  refine ⟨.ref s.heap.objs.size, _, I.laid (t' := s.toks) (o := .lst (cutV xs lo hi)) (fun b ob q => Heap.get?_push_of_some _ q) (Nat.le_refl _) ?_, rfl, q _ (I.hok.fresh (Nat.le_refl _))⟩
  exact ⟨Nat.le_trans (cutV_length xs lo hi) hz, _, 0, (r.drop (HT.sIx xs.length 0 lo)).take (HT.sIx xs.length xs.length hi - HT.sIx xs.length 0 lo), Heap.get?_push_size _ rfl⟩
def flatV : V → Bool
  | .non => true
  | .bl _ => true
  | .int _ => true
  | .str _ => true
  | _ => false
def eqV : V → V → Bool
  | .non, .non => true
  | .bl a, .bl b => a == b
  | .bl a, .int b => (if a then 1 else 0) == b
  | .int a, .bl b => a == (if b then 1 else 0)
  | .int a, .int b => a == b
  | .str a, .str b => a == b
  | _, _ => false
theorem eqAt_V {A : Around} {s : Shared} {y x : V} {u v : Value} (ry : RelV y u) (rx : RelV x v) (fy : flatV y = true) (fx : flatV x = true) : SeqAt.EqAt A s u v (eqV y x) := by
  cases y with
  | non =>
    cases ry
    cases x with
    | non => cases rx; exact SeqAt.EqAt.same _
    | bl b => cases rx; exact SeqAt.EqAt.none_bool b
    | int b => obtain ⟨t, rfl⟩ := rx; exact SeqAt.EqAt.none_int b t
    | str b => obtain ⟨t, rfl⟩ := rx; exact SeqAt.EqAt.none_str b t
    | _ => exact absurd (show false = true from fx) Bool.false_ne_true
  | bl a =>
    cases ry
    cases x with
    | non => cases rx; exact SeqAt.EqAt.bool_none a
    | bl b => cases rx; exact SeqAt.EqAt.bool_bool a b
    | int b => obtain ⟨t, rfl⟩ := rx; exact SeqAt.EqAt.bool_int a b t
    | str b => obtain ⟨t, rfl⟩ := rx; exact SeqAt.EqAt.bool_str a b t
    | _ => exact absurd (show false = true from fx) Bool.false_ne_true
  | int a =>
    obtain ⟨t', rfl⟩ := ry
    cases x with
    | non => cases rx; exact SeqAt.EqAt.int_none a t'
    | bl b => cases rx; exact SeqAt.EqAt.int_bool a t' b
    | int b => obtain ⟨t, rfl⟩ := rx; exact SeqAt.EqAt.int_int a t' b t
    | str b => obtain ⟨t, rfl⟩ := rx; exact SeqAt.EqAt.int_str a t' b t
    | _ => exact absurd (show false = true from fx) Bool.false_ne_true
  | str a =>
    obtain ⟨t', rfl⟩ := ry
    cases x with
    | non => cases rx; exact SeqAt.EqAt.str_none a t'
    | bl b => cases rx; exact SeqAt.EqAt.str_bool a t' b
    | int b => obtain ⟨t, rfl⟩ := rx; exact SeqAt.EqAt.str_int a t' b t
    | str b => obtain ⟨t, rfl⟩ := rx; exact SeqAt.EqAt.str_str a t' b t
    | _ => exact absurd (show false = true from fx) Bool.false_ne_true
  | _ => exact absurd (show false = true from fy) Bool.false_ne_true
theorem call_len_seq : CallR X (.builtin "len") (fun xs H Q => ∃ p ys, xs = [.ref p] ∧ (SqL X.K H p ys ∨ SqT X.K H p ys) ∧ Q (.int ys.length) H) := by
  intro pins s σ H xs us Q I r h
  obtain ⟨p, ys, rfl, hq, q⟩ := h
  obtain ⟨u, rfl, rx⟩ := vals1 r
  cases rx
  have hn := line63
  rcases hq with hq | hq
  · obtain ⟨its, r', pl, hz⟩ := I.list hq
    have hlen := r'.length
    exact Calls.call_len_list pl.isList (by simp only [List.size_toArray] <;> omega) ⟨.int ys.length, H, I.tok _, ⟨s.toks + 1, by rw [List.size_toArray, hlen]⟩, q⟩
  · obtain ⟨its, r', pl, hz⟩ := I.tuple hq
    have hlen := r'.length
    exact len_tuple pl (by simp only [List.size_toArray] <;> omega) ⟨.int ys.length, H, I.tok _, ⟨s.toks + 1, by rw [List.size_toArray, hlen]⟩, q⟩
theorem call_len_str : CallR X (.builtin "len") (fun xs H Q => ∃ z, xs = [.str z] ∧ z.length ≤ sizeLine ∧ Q (.int z.length) H) := by
  intro pins s σ H xs us Q I r h
  obtain ⟨z, rfl, hz, q⟩ := h
  obtain ⟨u, rfl, t, rfl⟩ := vals1 r
  have hn := line63
  exact len_str (by omega) ⟨.int z.length, H, I.tok _, ⟨_, rfl⟩, q⟩
theorem call_list_of : CallR X (.type "list") (fun xs H Q => ∃ p ys, xs = [.ref p] ∧ (SqL X.K H p ys ∨ SqT X.K H p ys) ∧ ∀ l, H l = none → Q (.ref l) (upd H l (.lst ys))) := by
  intro pins s σ H xs us Q I r h
  obtain ⟨p, ys, rfl, hq, q⟩ := h
  obtain ⟨u, rfl, rx⟩ := vals1 r
  cases rx
  have fin : ∀ (its : List Value), Vals ys its → ys.length ≤ sizeLine → ∀ (h' : Heap) (c' : Nat), (∀ b o', s.heap.get? b = some o' → h'.get? b = some o') →
      h'.get? s.heap.objs.size = some { cls := .type "list", dict := none, data := .seq its.toArray c', slots := #[] } → EP X pins σ Q (.ref s.heap.objs.size) { s with heap := h' } := fun its r' hz h' c' kp e =>
    ⟨.ref s.heap.objs.size, _, I.laid (t' := s.toks) kp (Nat.le_refl _) (show ObjOk X.prog X.w _ h' _ (.lst ys) from ⟨hz, its, c', r', e⟩), rfl, q _ (I.hok.fresh (Nat.le_refl _))⟩
  rcases hq with hq | hq
  · obtain ⟨its, r', pl, hz⟩ := I.list hq
    have hlen := r'.length
    obtain ⟨o, ho, hc, n, hd⟩ := pl.isList
    exact call_list_seq p (.inl rfl) ho hc hd (fun h' c' kp e => fin its r' hz h' c' kp e) (by simp only [List.size_toArray] <;> omega)
  · obtain ⟨its, r', pl, hz⟩ := I.tuple hq
    have hlen := r'.length
    obtain ⟨o, ho, hc, n, hd⟩ := pl
    exact call_list_seq p (.inr rfl) ho hc hd (fun h' c' kp e => fin its r' hz h' c' kp e) (by simp only [List.size_toArray] <;> omega)
def tyV (K : PySem.W.Frag) (T : String) (x : V) (H : Hp) : Prop := match x with
  | .str _ => T = "str"
  | .int _ => T = "int"
  | .ref p => (T = "list" ∧ ∃ xs, SqL K H p xs) ∨ (T = "tuple" ∧ ∃ o, K.lookup p = some o ∧ o.cls = .type "tuple" ∧ o.dict = none) ∨
      (T = "dict" ∧ ((∃ kvs, H p = some (.dK kvs)) ∨ ∃ kvs, H p = some (.dT kvs))) ∨ (T = "set" ∧ ∃ S n, H p = some (.set S n))
  | _ => False
theorem tyV_is {pins : List (Addr × Obj)} {σ : St} {H : Hp} {s : Shared} {T : String} {x : V} {v : Value} (I : Inv X pins σ H s) (r : RelV x v) (ty : tyV X.K T x H) :
    s.TypeIs v T ∧ ∀ a, v = .ref a → ∃ ob, s.heap.get? a = some ob ∧ ob.dict = none := by
  cases x with
  | str z =>
    obtain ⟨t, rfl⟩ := r
    cases (show T = "str" from ty)
    exact ⟨typeIs_str s z t, fun _ e => nomatch e⟩
  | int i =>
    obtain ⟨t, rfl⟩ := r
    cases (show T = "int" from ty)
    exact ⟨typeIs_int s i t, fun _ e => nomatch e⟩
  | ref p =>
    cases r
    rcases ty with ⟨rfl, xs, hq⟩ | ⟨rfl, o, hk, hc, hd⟩ | ⟨rfl, hk⟩ | ⟨rfl, S, n, hk⟩
    · obtain ⟨its, _, pl, _⟩ := I.list hq
      refine ⟨pl.isList.typeIs, fun a e => ?_⟩
      cases e
      obtain ⟨o, n, e, c, hd, _⟩ := pl
      exact ⟨o, e, hd⟩
    · refine ⟨⟨o, I.kIn p o hk, hc⟩, fun a e => ?_⟩
      cases e
      exact ⟨o, I.kIn _ o hk, hd⟩
    · have z : ∃ o, s.heap.get? p = some o ∧ o.ExactDict := by
        rcases hk with ⟨kvs, hk⟩ | ⟨kvs, hk⟩
        · obtain ⟨_, _, _, _, o, _, _, e, ex, _⟩ := I.hok p _ hk
          exact ⟨o, e, ex⟩
        · obtain ⟨_, _, _, _, o, _, _, e, ex, _⟩ := I.hok p _ hk
          exact ⟨o, e, ex⟩
      obtain ⟨o, e, ex⟩ := z
      refine ⟨⟨o, e, ex.1⟩, fun a e2 => ?_⟩
      cases e2
      exact ⟨o, e, ex.2.1⟩
    · obtain ⟨o, _, _, _, e, ex, _⟩ := I.hok p _ hk
      refine ⟨⟨o, e, ex.1⟩, fun a e2 => ?_⟩
      cases e2
      exact ⟨o, e, ex.2.1⟩
  | _ => exact False.elim ty
def tBM (K : PySem.W.Frag) (T : String) (r : V → List V → Hp → VK → Prop) (to : TE) (t : TA) : TE := fun σ H Q => to σ H fun x H1 => tyV K T x H1 ∧ t σ H1 fun xs H2 => r x xs H2 Q
variable {o e : Expr} {es : List Expr} {to : TE} {t : TA} {name : Str} {apos cpos : Pos} {T id : String} {r : V → List V → Hp → VK → Prop}
theorem pe_bm (pa : PlainAttrs T) (slot : Slot T name id) (hty : typeOf (.builtin id) = pure (.type "method_descriptor")) (hm : MtR X id r) (ho : PE X o to) (ha : PA X (e :: es) t)
    (hbase : attributeBase o name X.env (eval o X.env) = eval o X.env := by rfl)
    (hfew : ((backTo cpos (starEach (e :: es) X.env)).all (fun x => !x.1) && (backToKw cpos (keywordEach [] X.env)).all (fun x => x.1.isSome)
      && decide ((e :: es).length + ([] : List Keyword).length + (if ([] : List Keyword).isEmpty then 0 else 1) < 30)) = true := by rfl)
    (hline : (apos.endLine == cpos.line) = true := by rfl) (hs : starEach (e :: es) X.env = (false, eval e X.env) :: starEach es X.env := by rfl) (hplain : (backTo cpos (starEach es X.env)).any (·.1) = false := by rfl) :
    PE X (.Call (.Attribute o name apos) (e :: es) [] cpos) (tBM X.K T r to t) := by
  intro pins s σ H Q I h
  refine wpAny_Call_method_late hbase hfew hline rfl (thn (ho pins s σ H _ I h) fun v s1 ⟨x, H1, I1, r1, ty, q1⟩ => ?_)
  obtain ⟨h1, h2⟩ := tyV_is I1 r1 ty
  refine ⟨T, id, pa, slot, hty, h1, h2, ?_⟩
  have hA := ha cpos pins s1 σ H1 _ I1 q1
  rw [hs] at hA ⊢
  refine Calls.callWith_builtin (by show (false || (backTo cpos (starEach es X.env)).any (·.1)) = false; rw [hplain] <;> rfl) (Calls.evalArgs_plain ?_)
  exact thn hA fun us s2 ⟨vs, H2, I2, r2, q2⟩ => hm pins s2 σ H2 x vs v us Q I2 r1 r2 q2
/- xs.append(e), list.index on a module's tuple .. are MtR facts of 06m -/
end
end L2
namespace L2
open PySem PySem.Spec PyProof.Rows
theorem Vals.rep {xs : List V} {us : List Value} (h : Vals xs us) : ∀ k : Nat, Vals (List.replicate k xs).flatten (List.replicate k us).flatten
  | 0 => .nil
  | k + 1 => by
    rw [List.replicate_succ, List.replicate_succ, List.flatten_cons, List.flatten_cons]
    exact Vals.append h (Vals.rep h k)
theorem foldl_rep (its : List Value) : ∀ (k : Nat) (acc : List Value),
    List.foldl (fun x1 x2 => x1 ++ x2) acc.toArray (List.replicate k its.toArray) = (acc ++ (List.replicate k its).flatten).toArray
  | 0, acc => by simp
  | k + 1, acc => by
    have e : acc.toArray ++ its.toArray = (acc ++ its).toArray := by simp
    have e2 : (acc ++ its) ++ (List.replicate k its).flatten = acc ++ (List.replicate (k + 1) its).flatten := by
      rw [List.replicate_succ, List.flatten_cons, List.append_assoc]
    rw [← e2, ← foldl_rep its k (acc ++ its), ← e, List.replicate_succ, List.foldl_cons]
section
variable {X : Cx} {pins : List (Addr × Obj)} {σ : St} {H : Hp} {s : Shared} {l b : Addr} {xs ys zs : List V}
theorem Inv.lnew {its : List Value} {t' : Nat} (I : Inv X pins σ H s) (hv : Vals ys its) (hz : ys.length ≤ sizeLine) :
    Inv X pins σ (upd H s.heap.objs.size (.lst ys)) { s with heap := s.heap.push { cls := .type "list", data := .seq its.toArray }, toks := t' } :=
  I.laid (fun _ _ q => Heap.get?_push_of_some _ q) (Nat.le_refl _) ⟨hz, its, 0, hv, Heap.get?_push_size _ rfl⟩
theorem Inv.fresh (I : Inv X pins σ H s) : H s.heap.objs.size = none := I.hok.fresh (Nat.le_refl _)
theorem Inv.lstM (I : Inv X pins σ H s) (hH : H l = some (.lst xs)) : xs.length ≤ sizeLine ∧ ∃ (its : List Value) (n : Nat), Vals xs its ∧ xs.length = its.length ∧ s.heap.get? l = some { cls := .type "list", data := .seq its.toArray n } := by
  obtain ⟨z, its, n, r, e⟩ := I.hok l _ hH
  exact ⟨z, its, n, r, r.length, e⟩
theorem notLongL {n : Nat} (h : n ≤ sizeLine) : Builtin.List.listTooLong n = false := by
  unfold Builtin.List.listTooLong
  exact decide_eq_false (by omega)
end
section
variable {X : Cx}
def rCat : R2 := fun x y H Q => ∃ l b xs zs, x = .ref l ∧ y = .ref b ∧ H l = some (.lst xs) ∧ H b = some (.lst zs) ∧ xs.length + zs.length ≤ sizeLine ∧ ∀ p, H p = none → Q (.ref p) (upd H p (.lst (xs ++ zs)))
theorem op_cat : OpR X (binaryOp .Add) rCat := by
  intro pins s σ H x y v u Q I rx ry h
  obtain ⟨l, b, xs, zs, rfl, rfl, hH, hB, hz, q⟩ := h
  cases rx
  cases ry
  obtain ⟨z, its, n, r, hl, e⟩ := I.lstM hH
  obtain ⟨z2, its2, n2, r2, hl2, e2⟩ := I.lstM hB
  refine PySem.P.add_list e e2 ?_ (by rw [List.size_toArray, List.size_toArray]; omega)
  have ea : its.toArray ++ its2.toArray = (its ++ its2).toArray := by simp
  rw [ea]
  exact ⟨.ref _, _, I.lnew (t' := s.toks) (r.append r2) (by rw [List.length_append]; omega), rfl, q _ I.fresh⟩
def rRep : R2 := fun x y H Q => ∃ l k xs, x = .ref l ∧ y = .int k ∧ H l = some (.lst xs) ∧ -(2 ^ 63) ≤ k ∧ k < 2 ^ 63 ∧ xs.length * k.toNat ≤ sizeLine ∧
  ∀ p, H p = none → Q (.ref p) (upd H p (.lst (List.replicate k.toNat xs).flatten))
theorem len_rep {α : Type} (xs : List α) (k : Nat) : (List.replicate k xs).flatten.length = k * xs.length := by
  induction k with
  | zero => simp
  | succ k ih => rw [List.replicate_succ, List.flatten_cons, List.length_append, ih, Nat.succ_mul, Nat.add_comm]
theorem op_rep : OpR X (binaryOp .Mult) rRep := by
  intro pins s σ H x y v u Q I rx ry h
  obtain ⟨l, k, xs, rfl, rfl, hH, h1, h2, hz, q⟩ := h
  cases rx
  obtain ⟨t, rfl⟩ := ry
  obtain ⟨z, its, n, r, hl, e⟩ := I.lstM hH
  have hlen : its.toArray.size * k.toNat ≤ sizeLine := by rw [List.size_toArray, ← hl]; exact hz
  have hcap : ¬ its.toArray.size * k.toNat > (2 ^ 63 - 1) / 8 := by
    have : (sizeLine : Nat) ≤ (2 ^ 63 - 1) / 8 := by decide
    omega
  have hfit : ¬ (!Builtin.List.listFitsIndex k) = true := by
    rw [fitsIndex_both h1 h2]
    exact Bool.false_ne_true
  have hlong : ¬ Builtin.List.listTooLong (its.toArray.size * k.toNat) = true := by
    rw [notLongL hlen]
    exact Bool.false_ne_true
  have hnew : List.foldl (fun x1 x2 => x1 ++ x2) #[] (List.replicate (if its.toArray.isEmpty = true then 0 else k.toNat) its.toArray) = (List.replicate k.toNat its).flatten.toArray := by
    have f0 : ∀ m : Nat, List.foldl (fun x1 x2 => x1 ++ x2) #[] (List.replicate m its.toArray) = (List.replicate m its).flatten.toArray := fun m => by
      have := foldl_rep its m []
      rw [List.nil_append] at this
      exact this
    rw [f0]
    cases its with
    | nil => simp
    | cons a r' => rw [if_neg (by simp)]
  refine wpAny_binaryOp_repeat_ref (T := "list") (U := "int") (by decide) ⟨_, e, rfl⟩ (fun s' => typeIs_int s' k t) noFill_list_mul F.fills_int_mul F.slot_int_rmul repeat_list F.slot_int_index.lookup
    (call_meets F.slot_int_rmul (typeIs_int s k t) F.entry_int_rmul (F.args_int_rmul_2 _ _) (int___rmul___int_list k t l its.toArray n)
      ⟨e, rfl, ⟨_, e, rfl⟩, call_meets F.slot_list_mul ⟨_, e, rfl⟩ F.entry_list_mul (F.args_list_mul_2 _ _) (AutoListH.list___mul___list_int_3 l its.toArray n k t hfit hcap hlong) ⟨e, ?_⟩⟩)
  rw [hnew]
  exact ⟨.ref _, _, I.lnew (t' := s.toks) (r.rep k.toNat) (by rw [len_rep, Nat.mul_comm]; exact hz), rfl, q _ I.fresh⟩
end
section
variable {prog : Program} {w : World} {A : Around} {E : Value → Shared → Prop} {s : Shared}
end
section
variable {X : Cx}
end
end L2
namespace Att
open PySem PySem.W PySem.Calls PyProof.Rows
theorem ints_of_wellAll {P : Params} {h : Heap} : ∀ (ns : List Int) (vs : List Value), WellAll P h vs (ns.map WData.int) → IntsAre vs ns := by
  intro ns
  induction ns with
  | nil =>
    intro vs w
    rw [List.map_nil] at w
    cases w
    exact .nil
  | cons n ns ih =>
    intro vs w
    rw [List.map_cons] at w
    cases w with
    | cons a b =>
      cases a
      exact .cons _ _ (ih _ b)
theorem script_of {l : OpenLaw} {n : Nat} (hn : l.most = some n) {P : Params} {h : Heap} {args : List WData} {vals : List Value}
    (hpre : l.row.toRowW.claim.pre args = true) (hwl : WellAll P h vals args) :
    ∃ a vs ns, vals = [Value.ref a] ∧ args = [WData.list (ns.map WData.int)] ∧ h.get? a = some { cls := .type "list", data := .seq vs.toArray } ∧ IntsAre vs ns ∧ ns.length ≤ n := by
  have hsh : WShape.hasAll [] args [.list .int] = true := (pre_splitW hpre).1
  have hc : l.pre.holds [] { args := args } = true := (pre_splitW hpre).2
  obtain ⟨d, r, rfl, h1, h2⟩ := hasAllW_cons hsh
  obtain rfl := hasAllW_nil h2
  obtain ⟨xs, rfl, h3⟩ := hasW_list h1
  obtain ⟨ns, rfl⟩ := items_int h3
  have hlen : ns.length ≤ n := by
    unfold OpenLaw.pre at hc
    have h4 : (WTm.not (.lt (.lit (.int (n : Int))) (.len (.arg 0)))).holds [] { args := [.list (ns.map .int)] } = true := by
      have h4 := (holds_andW hc).1
      rw [hn] at h4
      exact h4
    have h5 := condW_of h4 (w_not (w_lt w_lit (w_len_list (w_arg rfl))))
    rw [List.length_map] at h5
    refine Nat.le_of_not_lt fun q => ?_
    have q' : (n : Int) < ((ns.length : Nat) : Int) := by omega
    first
      | (rw [decide_eq_true q'] at h5; exact absurd h5 (by decide))
      | (simp at h5; omega)
  cases hwl with
  | cons w1 w2 =>
    cases w2
    cases w1 with
    | list ho hall => exact ⟨_, _, ns, rfl, rfl, ho, ints_of_wellAll ns _ hall, hlen⟩
theorem post_true (l : OpenLaw) (args : List WData) : l.row.toRowW.claim.post args (.bool true) args = true :=
  postW_of (r := l.row.toRowW) (X := (true == true))
    (show WShape.has [] (.bool true) .bool = true by first | rfl | decide | simp [WShape.has, WShape.arms, WShape.armsAll])
    (show (WTm.eq .res (.lit (.bool true))).value [] { args := args, res := some (.bool true), after := args } = some (.bool (true == true)) from w_eq_bool (w_res rfl) w_lit) rfl
theorem attach_call {l : OpenLaw} {n : Nat} {q : Program} {loose : List Str} {XP : (Str → Option Value) → Heap → Prop} {YP : World → Heap → Prop} {d : DefRec}
    (hn : l.most = some n) (hdf : d.params.defaults = [])
    (call : ∀ (w : World) (s₀ s₁ : Shared) (mg mb : Str → Option Value) (fa : Addr) (o : Obj) (pm cd doc : Value) (a : Addr) (vs : List Value) (ns : List Int),
      Ground q loose [] XP w s₀ mg mb s₁.heap → YP w s₁.heap →
      s₁.heap.get? fa = some o → o.data = .func (docDef d.name d.params d.body d.scope pm cd doc) → s₁.heap.CodeRec cd d.name → mg d.name = some (.ref fa) →
      s₁.heap.get? a = some { cls := .type "list", data := .seq vs.toArray } → IntsAre vs ns → ns.length ≤ n → s₁.gens = #[] →
      codeAny (model l.prog w) callerA (.call (.ref fa) ⟨[.ref a], []⟩) (fun r s' => r = .ok (.ret (.bool true)) ∧ OldK s₁.heap s'.heap ∧ s'.os = s₁.os ∧ AllBare s'.gens) s₁) :
    WalkO q loose XP YP l.row.toRowW d [] (fun f vs => PySem.call f vs) := by
  intro w s₀ s₁ mg mb G Y fa o pm cd doc dV kV ho hd hcd hD hmg hg args vals as hpre hlay hrd hwl hlo
  obtain rfl : dV = .none := Dflts.none hD hdf
  obtain rfl : kV = .none := Dflts.noKw hD
  obtain ⟨a, vs, ns, rfl, rfl, hobj, hints, hlen⟩ := script_of hn hpre hwl
  refine enter_call (codeAny_mono (call w s₀ s₁ mg mb fa o pm cd doc a vs ns G Y ho (fd_plain hd) hcd hmg hobj hints hlen hg) fun r s' hq => ?_)
  obtain ⟨rfl, h2, h3, h4⟩ := hq
  exact ⟨.inl ⟨.bool true, .bool true, [], rfl, fun _ => rfl, .bool true, post_true l _, fun _ => ⟨List.Pairwise.nil, fun _ hm => (nomatch hm)⟩⟩, h2, h3, h4⟩
section
variable {prog : Program} {w : World} {A : Around} {E : Value → Shared → Prop} {s : Shared} {K : Frag}
end
end Att
namespace L2
open PySem PySem.Spec PyProof.Rows
theorem vals_ints : ∀ {vs : List Value} {ns : List Int}, IntsAre vs ns → Vals (ns.map V.int) vs
  | _, _, .nil => .nil
  | _, _, .cons n t h => .cons ⟨t, rfl⟩ (vals_ints h)
def Only (H : Hp) : Prop := ∀ b, H b = none ∨ ∃ o xs, H b = some (.frz o (.lst xs))
theorem law_call {P : Program} {w : World} {K : PySem.W.Frag} {mg mb : Str → Option Value} {CX : CXT} {k : Nat} {fa a : Addr} {fd : FuncData} {x : Str} {sp : Sp} {s₁ : Shared} {vs : List Value} {ns : List Int}
    (KX : K.In s₁.heap) (hns : s₁.heap.Ns mainGlobals mg) (hb : s₁.heap.Ns builtinsNs mb) (hbb : ∀ x : Str, x ≠ "__name__" → mb x = bootBuiltins x) (hlim : s₁.heap.NoLimit) (hg : s₁.gens = #[])
    (ha : s₁.heap.get? a = some { cls := .type "list", data := .seq vs.toArray }) (hi : IntsAre vs ns) (hl : ns.length ≤ sizeLine) (hr : Room k callerA)
    (F : ∀ base : Heap, K.In base → base.Ns mainGlobals mg → FnOk P w K mg base CX k fa fd [x] sp) (hbind : ∀ (s : Shared) (u : Value), BindsTo s fd ⟨[u], []⟩ [(x, u)])
    (hsp : ∀ H : Hp, Only H → SqL K H a (ns.map V.int) → sp [.ref a] H (fun v _ => v = .bl true) fun _ _ _ => False)
    (hCX : ∀ H e s', CX [] H s₁ (fun _ _ _ => False) e s' → False) :
    codeAny (model P w) callerA (.call (.ref fa) ⟨[.ref a], []⟩) (fun r s' => r = .ok (.ret (.bool true)) ∧ OldK s₁.heap s'.heap ∧ s'.os = s₁.os ∧ AllBare s'.gens) s₁ := by
  have rv := vals_ints hi
  have lenV := hi.length
  have core : ∀ H : Hp, Only H → SqL K H a (ns.map V.int) → HOk P w H s₁.heap → (∀ b, H b ≠ none → b = a) → (H a ≠ none → K.lookup a = none) →
      codeAny (model P w) callerA (.call (.ref fa) ⟨[.ref a], []⟩) (fun r s' => r = .ok (.ret (.bool true)) ∧ OldK s₁.heap s'.heap ∧ s'.os = s₁.os ∧ AllBare s'.gens) s₁ := by
    intro H hO hS hok hA hK
    have base_of : ∀ {b : Addr} {o : Obj}, s₁.heap.get? b = some o → H b = none → (hidT s₁.heap H).get? b = some o := fun e n => hidT_get e n
    have noA : ∀ {b : Addr} {o : Obj} {es : Array DictEntry} {ep : Nat}, s₁.heap.get? b = some o → o.data = .dict es ep → H b = none := fun {b o es ep} e d => by
      cases q : H b with
      | none => rfl
      | some u =>
        have e' : b = a := hA b (by rw [q]; simp)
        subst e'
        rw [ha] at e; cases e
        have d' : Data.seq vs.toArray _ = Data.dict es ep := d
        cases d'
    have nsK : ∀ {b : Addr} {m : Str → Option Value}, s₁.heap.Ns b m → (hidT s₁.heap H).Ns b m := fun {b m} ⟨o, es, ep, e, d, r⟩ => ⟨o, es, ep, base_of e (noA e d), d, r⟩
    have hKb : K.In (hidT s₁.heap H) := fun b o e => base_of (KX b o e) (by
      cases q : H b with
      | none => rfl
      | some u =>
        have e' : b = a := hA b (by rw [q]; simp)
        subst e'
        rw [hK (by rw [q]; simp)] at e; cases e)
    have hM : Mod K mg (hidT s₁.heap H) := ⟨hKb, nsK hns, ⟨mb, nsK hb, hbb⟩, let ⟨mc, h1, h2⟩ := hlim; ⟨mc, nsK h1, h2⟩⟩
    have e0 : Env0 P w K mg (hidT s₁.heap H) callerA [] s₁ H := ⟨rfl, hM, fun b o e => of_hidT e, Nat.le_of_eq (hidT_size _ _), trivial, fun b hb => absurd (show b ∈ ([] : List Addr) from hb) (by simp), hok, .of_eq hg⟩
    refine codeAny_mono ((F _ hKb (nsK hns)).run callerA [] s₁ H ⟨[.ref a], []⟩ [.ref a] [.ref a] _ _ hr e0 (hbind s₁ (.ref a)) (.cons rfl .nil) (hsp H hO hS)) fun r s' h => ?_
    cases r with
    | error e => exact (hCX H e s' h).elim
    | ok fl =>
      cases fl with
      | next => exact False.elim h
      | brk => exact False.elim h
      | cont => exact False.elim h
      | ret u =>
        obtain ⟨v, H', os, bare, un, hok', r', q⟩ := h
        have q' : v = .bl true := q
        subst q'
        obtain rfl : u = Value.bool true := r'
        refine ⟨rfl, OldK.of_keep fun b o e => ?_, os, bare⟩
        cases q : H b with
        | none => exact un.keep b o e q (by intro z; exact absurd (show b ∈ ([] : List Addr) from z) (by simp)) (by simp)
        | some u =>
          rcases hO b with z | ⟨ob, xs, z⟩
          · rw [q] at z; cases z
          · have z2 := un.frzs b ob _ z
            obtain ⟨e1, _⟩ := hok b _ z
            obtain ⟨e2, _⟩ := hok' b _ z2
            rw [e] at e1; cases e1
            exact e2
  cases hk : K.lookup a with
  | some o =>
    have e := KX a o hk
    rw [ha] at e
    cases e
    refine core (fun _ => none) (fun _ => .inl rfl) (.inr ⟨_, vs.toArray, _, hk, rfl, rfl, rfl, by rw [List.size_toArray, lenV]; exact hl, by simpa using rv⟩) (fun b u z => by have z' : (none : Option HO) = some u := z; cases z') (fun b z => absurd rfl z) fun z => absurd rfl z
  | none =>
    refine core (fun b => if b = a then some (.frz { cls := .type "list", data := .seq vs.toArray } (.lst (ns.map V.int))) else none) (fun b => ?_) (.inl (.inr ⟨{ cls := .type "list", data := .seq vs.toArray }, if_pos rfl⟩)) (fun b u z => ?_) (fun b z => ?_) fun _ => hk
    · by_cases hb : b = a
      · exact .inr ⟨_, _, if_pos hb⟩
      · exact .inl (if_neg hb)
    · by_cases hb : b = a
      · have z' := (if_pos hb).symm.trans z
        cases z'
        subst hb
        exact ⟨ha, by rw [List.length_map]; exact hl, vs, _, rv, ha⟩
      · have z' := (if_neg hb).symm.trans z
        cases z'
    · by_cases hb : b = a
      · exact hb
      · exact absurd (if_neg hb) z
end L2
namespace L2
open PySem PySem.Spec PyProof.Rows
theorem walk_of {l : PySem.W.OpenLaw} {n k : Nat} {q : Program} {loose : List Str} {XP : (Str → Option Value) → Heap → Prop} {YP : World → Heap → Prop} {d : DefRec} {K : Params → PySem.W.Frag} {CX : World → CXT} {sp : World → Sp} {x : Str}
    (hn : l.most = some n) (hn2 : n ≤ sizeLine) (hdf : d.params.defaults = []) (hr : Room k callerA)
    (hY : ∀ (w : World) (h : Heap), YP w h → (K w.params).In h)
    (F : ∀ (w : World) (mg : Str → Option Value) (fa : Addr) (h : Heap), (K w.params).In h → h.Ns mainGlobals mg → mg d.name = some (.ref fa) →
      ∃ fd : FuncData, (∀ (s : Shared) (u : Value), BindsTo s fd ⟨[u], []⟩ [(x, u)]) ∧
        ∀ base : Heap, (K w.params).In base → base.Ns mainGlobals mg → FnOk l.prog w (K w.params) mg base (CX w) k fa fd [x] (sp w))
    (hsp : ∀ (w : World) (H : Hp) (a : Addr) (ns : List Int), ns.length ≤ n → Only H → SqL (K w.params) H a (ns.map V.int) → sp w [.ref a] H (fun v _ => v = .bl true) fun _ _ _ => False)
    (hCX : ∀ (w : World) (H : Hp) (s : Shared) (e : Value) (s' : Shared), CX w [] H s (fun _ _ _ => False) e s' → False) :
    PySem.W.WalkO q loose XP YP l.row.toRowW d [] (fun f vs => PySem.call f vs) := by
  refine Att.attach_call hn hdf fun w s₀ s₁ mg mb fa o pm cd doc a vs ns G Y ho hd hcd hmg hobj hints hlen hg => ?_
  have KX := hY w _ Y
  obtain ⟨fd, hb, hF⟩ := F w mg fa _ KX G.T.g hmg
  exact law_call KX G.T.g G.T.b G.T.builtins G.T.nolimit hg hobj hints (Nat.le_trans hlen hn2) hr hF hb (fun H hO hS => hsp w H a ns hlen hO hS) fun H e s' => hCX w H s₁ e s'
end L2
/- THE LAST THEOREM (shape; LID, My.* are yours):
   My.Adr: a structure of the addresses that your layer names (classes, functions); My.Txt K t: a structure (Prop) of the equations over K;
   My.txt_mk : {K} {implicit addresses ..} (e1 : nsIn K mainGlobals "law" = some (some (.ref f))) (e2 : K.lookup f = some ⟨oc, od, .func (fnOf "law" "law" params body scope dV kV doc pm an cdv ct), sl⟩) (e3 : codeIn K cdv "law" = true) .. : ∃ t, My.Txt K t
set_option maxRecDepth 100000 in
set_option maxHeartbeats 0 in
theorem PySem.Challenge.cw_LID_holds : PySem.Challenge.rw_LID.Holds := by
  w_on; o_law; k_head; (case hw => w_witness2)
  k_fill
  refine L2.walk_of (l := PySem.Challenge.rw_LID) (n := 63) (k := 40) (x := "script") (CX := fun w => ..) (sp := fun _ => My.sp_law) rfl (by decide) rfl ⟨rfl, by decide, by decide⟩ (fun w h Y => PySem.W.kIn_of Y) ?F ?S ?C
  case F =>
    intro w mg fa h KX G hmg
    have T : ∃ t, My.Txt (L2.KOf KX) t := by
      dsimp only [L2.KOf]                          -- K must stand as «<heap const> w.params» for k_is
      refine' My.txt_mk ?e1 ?e2 ?e3 ..
      (case e1 => PySem.W.k_is)                    -- in the order: a name -> its address -> its object -> its parts
      (case e2 => PySem.W.k_is)
      ..
    obtain ⟨t, T⟩ := T
    have e0 := hmg.symm.trans (PySem.W.mg_of KX G T.law)
    cases e0                                       -- fa is the law's own address
    exact ⟨_, fun s u => .of_eq rfl, fun base kb nb => My.law_fn T kb nb⟩     -- if «.of_eq rfl» comes too early: refine' ⟨_, ?b, fun base kb nb => My.law_fn T kb nb⟩; exact fun s u => .of_eq rfl
  case S => exact fun w H a ns hl hO hS => ..
  case C => exact ..
(the tactic k_is has no namespace: write k_is) -/
namespace L2
open PySem PySem.Spec PyProof.Rows
def inClass (s : Stmt) (j : Nat) : Stmt := match s with
  | .ClassDef _ _ _ body _ _ _ _ _ _ _ => body.getD j (.Pass ⟨0, 0, 0, 0⟩)
  | _ => .Pass ⟨0, 0, 0, 0⟩
def defArgs (s : Stmt) : Arguments := match s with
  | .FunctionDef _ a _ _ _ _ _ _ _ _ => a
  | _ => { posonlyargs := [], args := [], vararg := none, kwonlyargs := [], kw_defaults := [], kwarg := none, defaults := [] }
def defBody (s : Stmt) : List Stmt := match s with
  | .FunctionDef _ _ b _ _ _ _ _ _ _ => b
  | _ => []
def defScope (s : Stmt) : Scope := match s with
  | .FunctionDef _ _ _ _ _ _ sc _ _ _ => sc
  | _ => { kind := .function, names := [], isGenerator := false, isCoroutine := false }
abbrev CX0 : CXT := fun _ _ _ _ _ _ => False
abbrev E0 : XK := fun _ _ _ => False
theorem pass0 {X : Cx} : Passes CX0 X E0 := fun _ _ _ _ _ _ _ h => h.elim
structure Fun (K : PySem.W.Frag) (x qual : Str) (st : Stmt) (f : Addr) (fd : FuncData) : Prop where
  ex : ∃ (oc : Value) (od : Option Addr) (kV doc pm : Value) (an : Option Addr) (cdv ct : Value) (osl : Array (Option Value)),
    fd = PySem.W.fnOf x qual (defArgs st) (defBody st) (defScope st) .none kV doc pm an cdv ct ∧ K.lookup f = some ⟨oc, od, .func fd, osl⟩ ∧ PySem.W.codeIn K cdv qual = true
  kp : PySem.W.keepIn K (.ref f) = true
section
variable {P : Program} {w : World} {K : PySem.W.Frag} {mg : Str → Option Value} {base : Heap}
theorem Fun.ok {x qual : Str} {st : Stmt} {f : Addr} {fd : FuncData} {N ps : List Str} {k : Nat} {sp : Sp} (F : Fun K x qual st f fd) (S : FnScope N ps (defScope st)) (len : ∀ vs H Q E, sp vs H Q E → vs.length = ps.length)
    (hbody : ∀ (cdv : Value) (A : Around) (outer : List Env) (s : Shared) (H : Hp) (vs : List V) (Q : VK) (E : XK), Room k (A.deeper (envOfC qual (defScope st) s.heap.objs.size f cdv)) → sp vs H Q E →
      ∃ t, PSs (cxOf CX0 P w K mg base N qual (defScope st) f cdv A outer s H E).nox (defBody st) t ∧ t { nx := fun _ H' => Q .non H', rt := Q } (start N vs) H) : FnOk P w K mg base CX0 (k + 1) f fd ps sp := by
  obtain ⟨oc, od, kV, doc, pm, an, cdv, ct, osl, rfl, lk, hcd⟩ := F.ex
  refine fn_of lk hcd S len fun A outer s H vs Q E hr hsp => ?_
  obtain ⟨t, h, q⟩ := hbody cdv A outer s H vs Q E hr hsp
  exact ⟨t, h.nox, q⟩
theorem Fun.binds {x qual : Str} {st : Stmt} {f : Addr} {fd : FuncData} {ps : List Str} (F : Fun K x qual st f fd)
    (h : ∀ (kV doc pm : Value) (an : Option Addr) (cdv ct : Value) (us : List Value), us.length = ps.length → bindArgs (PySem.W.fnOf x qual (defArgs st) (defBody st) (defScope st) .none kV doc pm an cdv ct) ⟨us, []⟩ = pure (ps.zip us)) : Binds K fd ps [] := by
  obtain ⟨oc, od, kV, doc, pm, an, cdv, ct, osl, rfl, lk, hcd⟩ := F.ex
  exact .all (h kV doc pm an cdv ct)
theorem fun_mk {x qual : Str} {st : Stmt} {f : Addr} {oc : Value} {od an : Option Addr} {osl : Array (Option Value)} {kV doc pm cdv ct : Value} (l : K.lookup f = some ⟨oc, od, .func (PySem.W.fnOf x qual (defArgs st) (defBody st) (defScope st) .none kV doc pm an cdv ct), osl⟩)
    (c : PySem.W.codeIn K cdv qual = true) (k : PySem.W.keepIn K (.ref f) = true) : Fun K x qual st f (PySem.W.fnOf x qual (defArgs st) (defBody st) (defScope st) .none kV doc pm an cdv ct) := ⟨⟨oc, od, kV, doc, pm, an, cdv, ct, osl, rfl, l, c⟩, k⟩
end
theorem small1000 {n : Nat} (h : n ≤ 1000) : n < sizeLine := Nat.lt_of_le_of_lt h (by decide)
section
variable {X : Cx}
theorem pv (i : Nat) {x : Str} {pos : Pos} (hN : X.N[i]? = some x := by rfl) (hv : Vis X.env.scope x := by first | exact Or.inl rfl | exact Or.inr (Or.inl rfl) | exact Or.inr (Or.inr rfl)) (hd : (x == ("__debug__" : Str)) = false := by decide)
    (hcd : (x == ("__classdict__" : Str)) = false := by decide) : PE X (.Name x pos) (tVar i) := pe_var hN hv hd hcd
end
theorem iteF {A B : Prop} (h : B) : if false = true then A else B := by
  rw [if_neg Bool.false_ne_true]
  exact h
theorem iteT {A B : Prop} (h : A) : if true = true then A else B := by
  rw [if_pos rfl]
  exact h
theorem ite2 {c A B : Prop} [Decidable c] (h1 : c → A) (h2 : ¬ c → B) : if c then A else B := by
  by_cases h : c
  · rw [if_pos h]
    exact h1 h
  · rw [if_neg h]
    exact h2 h
def Same (H H' : Hp) : Prop := ∀ b o, H b = some o → H' b = some o
theorem Same.refl (H : Hp) : Same H H := fun _ _ h => h
theorem Same.trans {H H1 H2 : Hp} (a : Same H H1) (b : Same H1 H2) : Same H H2 := fun c o h => b c o (a c o h)
theorem Same.free {H H' : Hp} (e : Same H H') {l : Addr} (h : H' l = Option.none) : H l = Option.none := by
  cases q : H l with
  | none => rfl
  | some o =>
    rw [e l o q] at h
    cases h
theorem Same.seq {K : PySem.W.Frag} {H H' : Hp} {a : Addr} {xs : List V} (e : Same H H') (h : SqL K H a xs) : SqL K H' a xs := by
  rcases h with (h | ⟨o, h⟩) | h
  · exact .inl (.inl (e _ _ h))
  · exact .inl (.inr ⟨o, e _ _ h⟩)
  · exact .inr h
end L2
set_option Elab.async false
set_option linter.all false
set_option maxRecDepth 100000
set_option maxHeartbeats 4000000
namespace L2
open PySem PySem.Spec PyProof.Rows
section
variable {κ : Type} [DecidableEq κ]
def valV (kvs : List (κ × V)) (k : κ) : Option V := (kvs.find? fun kv => decide (kv.1 = k)).map (·.2)
def putK (kvs : List (κ × V)) (k : κ) (v : V) : List (κ × V) :=
  if (kvs.any fun kv => decide (kv.1 = k)) = true then kvs.map (fun kv => if kv.1 = k then (kv.1, v) else kv) else kvs ++ [(k, v)]
theorem valV_nil {k : κ} : valV ([] : List (κ × V)) k = none := rfl
theorem valV_pos {p : κ × V} {r : List (κ × V)} {k : κ} (e : p.1 = k) : valV (p :: r) k = some p.2 := by simp [valV, List.find?_cons, e]
theorem valV_neg {p : κ × V} {r : List (κ × V)} {k : κ} (e : ¬ p.1 = k) : valV (p :: r) k = valV r k := by simp [valV, List.find?_cons, e]
theorem valV_any (k : κ) : ∀ kvs : List (κ × V), (kvs.any fun kv => decide (kv.1 = k)) = (valV kvs k).isSome
  | [] => rfl
  | p :: r => by
    rw [List.any_cons]
    by_cases e : p.1 = k
    · simp only [valV_pos e, decide_eq_true e, Bool.true_or, Option.isSome_some]
    · rw [valV_neg e, decide_eq_false e, Bool.false_or]; exact valV_any k r
theorem valV_map (k j : κ) (y : V) : ∀ kvs : List (κ × V), valV (kvs.map fun kv => if kv.1 = k then (kv.1, y) else kv) j = (valV kvs j).map fun x => if j = k then y else x
  | [] => rfl
  | p :: r => by
    have ih := valV_map k j y r
    rw [List.map_cons]
    by_cases h : p.1 = k
    · rw [if_pos h]
      by_cases e : p.1 = j
      · rw [valV_pos (p := (p.1, y)) e, valV_pos e, Option.map_some, if_pos (e.symm.trans h)]
      · rw [valV_neg (p := (p.1, y)) e, valV_neg e, ih]
    · rw [if_neg h]
      by_cases e : p.1 = j
      · rw [valV_pos (p := p) e, valV_pos e, Option.map_some, if_neg (fun z => h (e.trans z))]
      · rw [valV_neg (p := p) e, valV_neg e, ih]
theorem valV_snoc (k j : κ) (y : V) : ∀ kvs : List (κ × V), valV kvs k = none → valV (kvs ++ [(k, y)]) j = if j = k then some y else valV kvs j
  | [], _ => by
    by_cases e : k = j
    · rw [if_pos e.symm]; exact valV_pos (p := (k, y)) e
    · rw [if_neg (fun z => e z.symm)]; exact valV_neg (p := (k, y)) e
  | p :: r, hn => by
    rw [List.cons_append]
    have hk : ¬ p.1 = k := fun z => by rw [valV_pos z] at hn; cases hn
    rw [valV_neg hk] at hn
    have ih := valV_snoc k j y r hn
    by_cases e : p.1 = j
    · rw [valV_pos e, valV_pos e, if_neg (fun z => hk (e.trans z))]
    · rw [valV_neg e, valV_neg e, ih]
theorem valV_put (kvs : List (κ × V)) (k j : κ) (y : V) : valV (putK kvs k y) j = if j = k then some y else valV kvs j := by
  unfold putK
  by_cases a : (kvs.any fun kv => decide (kv.1 = k)) = true
  · rw [if_pos a, valV_map]
    rw [valV_any] at a
    by_cases e : j = k
    · obtain ⟨x, hx⟩ := Option.isSome_iff_exists.mp a
      rw [if_pos e, e, hx, Option.map_some, if_pos rfl]
    · rw [if_neg e]
      cases valV kvs j with
      | none => rfl
      | some x => rw [Option.map_some, if_neg e]
  · rw [if_neg a]
    refine valV_snoc k j y kvs ?_
    rw [valV_any] at a
    cases q : valV kvs k with
    | none => rfl
    | some x => rw [q] at a; exact (a rfl).elim
theorem length_putK (kvs : List (κ × V)) (k : κ) (v : V) : (putK kvs k v).length ≤ kvs.length + 1 := by
  unfold putK
  split
  · rw [List.length_map]; omega
  · rw [List.length_append, List.length_cons, List.length_nil]; omega
theorem RelO.isSome_eq {o : Option V} {u : Option Value} (r : RelO o u) : o.isSome = u.isSome := by
  cases o with
  | none => cases u with
    | none => rfl
    | some _ => exact (show False from r).elim
  | some _ => cases u with
    | none => exact (show False from r).elim
    | some _ => rfl
theorem KV.val {kvs : List (κ × V)} {vs : List (κ × Value)} (r : KV kvs vs) (k : κ) : RelO (valV kvs k) (valueAt vs k) := by
  unfold KV at r
  induction r with
  | nil => exact True.intro
  | @cons p q ps qs h t ih =>
    obtain ⟨h1, h2⟩ := h
    by_cases e : p.1 = k
    · have e' : q.1 = k := h1.symm.trans e
      have b : valueAt (q :: qs) k = some q.2 := by simp [valueAt, List.find?_cons, e']
      rw [valV_pos e, b]; exact h2
    · have e' : ¬ q.1 = k := fun z => e (h1.trans z)
      have b : valueAt (q :: qs) k = valueAt qs k := by simp [valueAt, List.find?_cons, e']
      rw [valV_neg e, b]; exact ih
theorem KV.any {kvs : List (κ × V)} {vs : List (κ × Value)} (r : KV kvs vs) (k : κ) : (kvs.any fun kv => decide (kv.1 = k)) = vs.any fun kv => decide (kv.1 = k) := by
  unfold KV at r
  induction r with
  | nil => rfl
  | cons h t ih => rw [List.any_cons, List.any_cons, ih, h.1]
theorem KV.repl {kvs : List (κ × V)} {vs : List (κ × Value)} (r : KV kvs vs) (k : κ) {y : V} {u : Value} (ry : RelV y u) :
    KV (kvs.map fun kv => if kv.1 = k then (kv.1, y) else kv) (vs.map fun kv => if kv.1 = k then (kv.1, u) else kv) := by
  unfold KV at r ⊢
  induction r with
  | nil => exact .nil
  | @cons p q ps qs h t ih =>
    rw [List.map_cons, List.map_cons]
    refine .cons ?_ ih
    obtain ⟨h1, h2⟩ := h
    by_cases e : p.1 = k
    · rw [if_pos e, if_pos (h1.symm.trans e)]; exact ⟨h1, ry⟩
    · rw [if_neg e, if_neg (fun z => e (h1.trans z))]; exact ⟨h1, h2⟩
theorem KV.put {kvs : List (κ × V)} {vs : List (κ × Value)} (r : KV kvs vs) (k : κ) {y : V} {u : Value} (ry : RelV y u) : KV (putK kvs k y) (stored vs k u) := by
  unfold putK stored
  rw [r.any k]
  by_cases e : (vs.any fun kv => decide (kv.1 = k)) = true
  · rw [if_pos e, if_pos e]; exact r.repl k ry
  · rw [if_neg e, if_neg e]; exact Paired.snoc r ⟨rfl, ry⟩
theorem KV.length {kvs : List (κ × V)} {vs : List (κ × Value)} (r : KV kvs vs) : kvs.length = vs.length := Paired.length r
end
theorem kV_is {P : Program} {w : World} {k : Key} {u : Value} (r : RelV (kV k) u) : (mixKind P w).is k u = true := by
  cases k with
  | inl i => obtain ⟨t, e⟩ := (show ∃ t, u = Value.int i t from r); subst e; exact mixKind_int P w i t
  | inr x => obtain ⟨t, e⟩ := (show ∃ t, u = Value.str x t from r); subst e; exact mixKind_str P w x t
theorem items_are {P : Program} {w : World} : ∀ {ks : List Key} {us : List Value}, Vals (ks.map kV) us → ItemsAre (mixKind P w) ks us
  | [], _, r => by rw [List.map_nil] at r; cases r; exact .nil
  | k :: ks, _, r => by
    rw [List.map_cons] at r
    cases r with
    | cons h t => exact .cons (kV_is h) (items_are t)
abbrev KT (H : Hp) : List (List Key × V) → List (List Key × Addr × Value) → Prop := Paired fun p q => p.1 = q.1 ∧ H q.2.1 = some (.tup (p.1.map kV)) ∧ RelV p.2 q.2.2
theorem KT.val {H : Hp} {kvs : List (List Key × V)} {xs : List (List Key × Addr × Value)} (r : KT H kvs xs) (k : List Key) : RelO (valV kvs k) ((atKey xs k).map (·.2)) := by
  induction r with
  | nil => exact True.intro
  | @cons p q ps qs h t ih =>
    obtain ⟨h1, _, h2⟩ := h
    by_cases e : p.1 = k
    · have e' : q.1 = k := h1.symm.trans e
      have b : atKey (q :: qs) k = some q.2 := by simp [atKey, List.find?_cons, e']
      rw [valV_pos e, b]; exact h2
    · have e' : ¬ q.1 = k := fun z => e (h1.trans z)
      have b : atKey (q :: qs) k = atKey qs k := by simp [atKey, List.find?_cons, e']
      rw [valV_neg e, b]; exact ih
theorem KT.repl {H : Hp} {kvs : List (List Key × V)} {xs : List (List Key × Addr × Value)} (r : KT H kvs xs) (k : List Key) {y : V} {u : Value} (ry : RelV y u) :
    KT H (kvs.map fun kv => if kv.1 = k then (kv.1, y) else kv) (xs.map (putAt k u)) := by
  induction r with
  | nil => exact .nil
  | @cons p q ps qs h t ih =>
    rw [List.map_cons, List.map_cons]
    refine .cons ?_ ih
    obtain ⟨h1, h2, h3⟩ := h
    unfold putAt
    by_cases e : p.1 = k
    · rw [if_pos e, if_pos (h1.symm.trans e)]; exact ⟨h1, h2, ry⟩
    · rw [if_neg e, if_neg (fun z => e (h1.trans z))]; exact ⟨h1, h2, h3⟩
theorem KT.put {H : Hp} {kvs : List (List Key × V)} {xs : List (List Key × Addr × Value)} (r : KT H kvs xs) (k : List Key) {b : Addr} {y : V} {u : Value} (hb : H b = some (.tup (k.map kV))) (ry : RelV y u) :
    KT H (putK kvs k y) (storedH xs k b u) := by
  have e : (kvs.any fun kv => decide (kv.1 = k)) = (atKey xs k).isSome := by
    rw [valV_any, (r.val k).isSome_eq, Option.isSome_map]
  unfold putK storedH
  rw [e]
  by_cases q : (atKey xs k).isSome = true
  · rw [if_pos q, if_pos q]; exact r.repl k ry
  · rw [if_neg q, if_neg q]; exact Paired.snoc r ⟨rfl, hb, ry⟩
theorem KT.keeps {H H' : Hp} {kvs : List (List Key × V)} {xs : List (List Key × Addr × Value)} (r : KT H kvs xs) (ht : ∀ b ys, H b = some (.tup ys) → H' b = some (.tup ys)) : KT H' kvs xs :=
  Paired.mapP r fun _ _ z => ⟨z.1, ht _ _ z.2.1, z.2.2⟩
section
variable {P : Program} {w : World} {H : Hp} {h : Heap} {a : Addr}
theorem rd_of {u : HO} (ok : HOk P w H h) (e : Rd H a u) : ObjOk P w H h a u := e.ok ok
theorem dk_rd {kvs : List (Key × V)} (ok : HOk P w H h) (e : Rd H a (.dK kvs)) : kvs.length ≤ sizeLine ∧ (a == sysModules) = false ∧ ∃ vs, KV kvs vs ∧ h.DictOf (mixKind P w) a vs :=
  show ObjOk P w H h a (.dK kvs) from rd_of ok e
theorem dk_of {kvs : List (Key × V)} (ok : HOk P w H h) (e : H a = some (.dK kvs)) : kvs.length ≤ sizeLine ∧ (a == sysModules) = false ∧ ∃ vs, KV kvs vs ∧ h.DictOf (mixKind P w) a vs := dk_rd ok (.inl e)
theorem key_of {ks : List Key} (ok : HOk P w H h) (e : H a = some (.tup (ks.map kV))) : (tupleKind (mixKind P w)).is h ks a := by
  obtain ⟨_, its, r, o, h1, h2, n, h3⟩ := (show ObjOk P w H h a (.tup (ks.map kV)) from ok a _ e)
  exact ⟨o, its.toArray, n, h1, h2, h3, by simpa using items_are r⟩
theorem dt_rd {kvs : List (List Key × V)} (ok : HOk P w H h) (e : Rd H a (.dT kvs)) : kvs.length ≤ sizeLine ∧ (a == sysModules) = false ∧
    ∃ xs, KT H kvs xs ∧ h.DictOfH (tupleKind (mixKind P w)) a xs := by
  obtain ⟨z, y, xs, r, o, es, ep, h1, h2, h3, h4, h5⟩ := (show ObjOk P w H h a (.dT kvs) from rd_of ok e)
  refine ⟨z, y, xs, r, o, es, ep, h1, h2, h3, h4, fun x hx => ?_, h5⟩
  have all : ∀ {l : List (List Key × V)} {m : List (List Key × Addr × Value)}, KT H l m → ∀ x ∈ m, (tupleKind (mixKind P w)).is h x.1 x.2.1 := by
    intro l m q
    induction q with
    | nil => intro x hx; exact nomatch hx
    | @cons p q ps qs hq t ih =>
      intro x hx
      rcases List.mem_cons.mp hx with e | hx
      · subst e
        exact key_of ok (by rw [← hq.1]; exact hq.2.1)
      · exact ih x hx
  exact all r x hx
theorem dt_of {kvs : List (List Key × V)} (ok : HOk P w H h) (e : H a = some (.dT kvs)) : kvs.length ≤ sizeLine ∧ (a == sysModules) = false ∧
    ∃ xs, KT H kvs xs ∧ h.DictOfH (tupleKind (mixKind P w)) a xs := dt_rd ok (.inl e)
end
def DGet (H : Hp) (a : Addr) (y : V) (r : Option V) : Prop :=
  (∃ kvs k, Rd H a (.dK kvs) ∧ y = kV k ∧ r = valV kvs k) ∨ ∃ kvs k b, Rd H a (.dT kvs) ∧ y = .ref b ∧ H b = some (.tup (k.map kV)) ∧ r = valV kvs k
def DPut (H : Hp) (a : Addr) (y v : V) (H' : Hp) : Prop :=
  (∃ kvs k, H a = some (.dK kvs) ∧ y = kV k ∧ kvs.length < sizeLine ∧ H' = upd H a (.dK (putK kvs k v))) ∨
  ∃ kvs k b, H a = some (.dT kvs) ∧ y = .ref b ∧ H b = some (.tup (k.map kV)) ∧ kvs.length < sizeLine ∧ H' = upd H a (.dT (putK kvs k v))
theorem DGet.k {H : Hp} {a : Addr} {kvs : List (Key × V)} {k : Key} (e : H a = some (.dK kvs)) : DGet H a (kV k) (valV kvs k) := .inl ⟨kvs, k, .inl e, rfl, rfl⟩
theorem DPut.k {H : Hp} {a : Addr} {kvs : List (Key × V)} {k : Key} {v : V} (e : H a = some (.dK kvs)) (hl : kvs.length < sizeLine) : DPut H a (kV k) v (upd H a (.dK (putK kvs k v))) := .inl ⟨kvs, k, e, rfl, hl, rfl⟩
section
variable {X : Cx} {pins : List (Addr × Obj)} {σ : St} {H : Hp} {s : Shared} {a : Addr} {y v : V} {u r : Value} {o : Option V} {A : Around} {E : Value → Shared → Prop}
theorem Inv.big (I : Inv X pins σ H s) : sysModules < s.heap.objs.size := by
  have h : mainGlobals < s.heap.objs.size := (I.mod.glob.keeps I.bk).lt
  exact Nat.lt_trans (by decide) h
theorem d_in {Q : Value → Shared → Prop} (hu : A.units + 1 < cLine) (I : Inv X pins σ H s) (g : DGet H a y o) (ry : RelV y u) (h : ∀ s', Inv X pins σ H s' → Q (.bool o.isSome) s') :
    wpAny (model X.prog X.w) A (compareOp .In u (.ref a)) Q E s := by
  rcases g with ⟨kvs, k, e, ey, l⟩ | ⟨kvs, k, b, e, ey, eb, l⟩
  · subst ey
    obtain ⟨z, hd, vs, rel, dd⟩ := dk_rd I.hok e
    refine wpAny_in_of (kV_is ry) hd dd.mapOf ?_
    rw [← (rel.val k).isSome_eq, ← l]
    exact h _ (I.tok _)
  · subst ey
    cases (show u = Value.ref b from ry)
    obtain ⟨z, hd, xs, rel, dd⟩ := dt_rd I.hok e
    refine wpAny_in_heap (tupleKind_room_in1 hu) (key_of I.hok eb) hd dd ?_
    have q := (rel.val k).isSome_eq
    rw [Option.isSome_map] at q
    rw [← q, ← l]
    exact h _ (I.tok _)
theorem d_write {h' : Heap} {t' : Nat} {ob : HO} (I : Inv X pins σ H s) (mu : Mut (H a)) (hs : Heap.SameBut a s.heap h') (he : ∃ q, h'.get? a = some q) (new : ObjOk X.prog X.w (upd H a ob) h' a ob) :
    Inv X pins σ (upd H a ob) { s with heap := h', toks := t' } :=
  I.write (x := a) (e := a) mu (.inl rfl) (fun b q hb z => (hs.2 b hb).trans z) he new
theorem dk_new {P : Program} {w : World} {H' : Hp} {h' : Heap} {kvs : List (Key × V)} {vs : List (Key × Value)} (z : kvs.length ≤ sizeLine) (hd : (a == sysModules) = false) (rel : KV kvs vs) (dd : h'.DictOf (mixKind P w) a vs) :
    ObjOk P w H' h' a (.dK kvs) := ⟨z, hd, vs, rel, dd⟩
theorem d_setItem {H' : Hp} {Q : Unit → Shared → Prop} (hu : A.units + 1 < cLine) (I : Inv X pins σ H s) (g : DPut H a y v H') (ry : RelV y u) (rv : RelV v r) (h : ∀ s', Inv X pins σ H' s' → Q () s') :
    wpAny (model X.prog X.w) A (setItem (.ref a) u r) Q E s := by
  rcases g with ⟨kvs, k, e, ey, l, eH⟩ | ⟨kvs, k, b, e, ey, eb, l, eH⟩
  · subst ey eH
    obtain ⟨z, hd, vs, rel, dd⟩ := dk_of I.hok e
    have hz : vs.length ≤ sizeLine := by rw [← rel.length]; exact z
    have hl : (putK kvs k v).length ≤ sizeLine := by have := length_putK kvs k v; omega
    refine wpAny_setItem_pairs (hsz := hz) (kV_is ry) dd fun h' dd' hs => h _ ?_
    have he : ∃ q, h'.get? a = some q := let ⟨q, _, _, hq, _⟩ := dd'; ⟨q, hq⟩
    exact d_write I (by rw [e]; exact True.intro) hs he (dk_new hl hd (rel.put k rv) dd')
  · subst ey eH
    cases (show u = Value.ref b from ry)
    obtain ⟨z, hd, xs, rel, dd⟩ := dt_of I.hok e
    have hz : xs.length ≤ sizeLine := by rw [← Paired.length rel]; exact z
    have hl : (putK kvs k v).length ≤ sizeLine := by have := length_putK kvs k v; omega
    refine wpAny_setItem_heap (hsz := hz) (tupleKind_room_in1 hu) (key_of I.hok eb) dd fun h' dd' hs => h _ ?_
    obtain ⟨q, es, ep, hq, h2, h3, h4, _, h5⟩ := dd'
    refine d_write I (by rw [e]; exact True.intro) hs ⟨q, hq⟩ ⟨hl, hd, _, (rel.put k eb rv).keeps fun c ys ec => ?_, q, es, ep, hq, h2, h3, h4, h5⟩
    rw [upd_ne (ne_of ec e (fun z => nomatch z))]
    exact ec
end
section
variable {X : Cx} {pins : List (Addr × Obj)} {σ : St} {H : Hp} {s : Shared} {a : Addr} {kvs : List (Key × V)} {k : Key} {u : Value} {A : Around} {E : Value → Shared → Prop}
end
def tDIn (ty td : TE) : TE := fun σ H Q => ty σ H fun y H1 => td σ H1 fun x H2 => ∃ a o, x = .ref a ∧ DGet H2 a y o ∧ Q (.bl o.isSome) H2
def sDPut (td ty tv : TE) : TS := fun D σ H => tv σ H fun v H1 => td σ H1 fun x H2 => ty σ H2 fun y H3 => ∃ a H4, x = .ref a ∧ DPut H3 a y v H4 ∧ D.nx σ H4
section
variable {X : Cx} {o i e value : Expr} {pos pos' tpos : Pos} {td ty tv : TE}
theorem pc_din (hu : X.A.units + 1 < cLine) (hi : PE X i ty) (ho : PE X o td) : PC X .In i o (tDIn ty td) := by
  intro pins s σ H Q I h
  refine thn (hi pins s σ H _ I h) fun iv s1 ⟨y, H1, I1, ry, q1⟩ => thn (ho pins s1 σ H1 _ I1 q1) fun u s2 ⟨x, H2, I2, rx, a, ov, ex, g, q2⟩ => ?_
  subst ex
  obtain rfl : u = Value.ref a := rx
  exact d_in hu I2 g ry fun s3 I3 => ⟨.bl ov.isSome, H2, I3, rfl, q2⟩
theorem ps_dput (hu : X.A.units + 1 < cLine) (ho : PE X o td) (hi : PE X i ty) (hv : PE X value tv) (hs : swapsWith value (some (.Subscript o i pos')) pos.line X.env = pure false) :
    PS X (.Assign [.Subscript o i pos'] value pos) (sDPut td ty tv) := by
  intro pins s σ H D I h
  refine wpAny_Assign_Subscript (thn (hv pins s σ H _ I h) fun r s1 ⟨v, H1, I1, rv, q1⟩ => thn (ho pins s1 σ H1 _ I1 q1) fun u s2 ⟨x, H2, I2, rx, q2⟩ => thn (hi pins s2 σ H2 _ I2 q2) fun iv s3 ⟨y, H3, I3, ry, a, H4, ex, g, q3⟩ => ?_) hs
  subst ex
  obtain rfl : u = Value.ref a := rx
  exact d_setItem hu I3 g ry rv fun s4 I4 => ⟨σ, H4, I4, q3⟩
end
theorem dk_empty {P : Program} {w : World} {H : Hp} (h : Heap) (hb : sysModules < h.objs.size) : ObjOk P w H (h.push { cls := .type "dict", data := .dict #[] }) h.objs.size (.dK []) :=
  ⟨Nat.zero_le _, beq_eq_false_iff_ne.mpr (Ne.symm (Nat.ne_of_lt hb)), [], .nil, Heap.DictOf.new h⟩
section
variable {X : Cx} {pos : Pos}
end
def tPairs : List (TE × TE) → St → Hp → (List (V × V) → Hp → Prop) → Prop
  | [], _, H, Q => Q [] H
  | (tk, tv) :: r, σ, H, Q => tk σ H fun x H1 => tv σ H1 fun y H2 => tPairs r σ H2 fun ps H3 => Q ((x, y) :: ps) H3
abbrev VV : List (V × V) → List (Value × Value) → Prop := Paired fun p q => RelV p.1 q.1 ∧ RelV p.2 q.2
def PPs (X : Cx) (pos : Pos) (keys : List (Option Expr)) (values : List Expr) (trs : List (TE × TE)) : Prop :=
  ∀ (pins : List (Addr × Obj)) (s : Shared) (σ : St) (H : Hp) (Q : List (V × V) → Hp → Prop), Inv X pins σ H s → tPairs trs σ H Q →
    wpAny (model X.prog X.w) X.A (evalPairs (pairTrees keys values X.env pos)) (fun vs s' => ∃ ps H', Inv X pins σ H' s' ∧ VV ps vs ∧ Q ps H') X.xe s
theorem pps_nil {X : Cx} {pos : Pos} : PPs X pos [] [] [] := fun pins s σ H Q I h => pairTrees_nil_walk ⟨[], H, I, .nil, h⟩
theorem pps_cons {X : Cx} {pos : Pos} {k v : Expr} {ks : List (Option Expr)} {vs : List Expr} {tk tv : TE} {trs : List (TE × TE)} (hk : PE X k tk) (hv : PE X v tv) (hr : PPs X pos ks vs trs) :
    PPs X pos (some k :: ks) (v :: vs) ((tk, tv) :: trs) := fun pins s σ H Q I h =>
  pairTrees_cons_walk (thn (hk pins s σ H _ I h) fun u s1 ⟨x, H1, I1, rx, q1⟩ => thn (hv pins s1 σ H1 _ I1 q1) fun w2 s2 ⟨y, H2, I2, ry, q2⟩ =>
    thn (hr pins s2 σ H2 _ I2 q2) fun ws s3 ⟨ps, H3, I3, rel, q3⟩ => ⟨(x, y) :: ps, H3, I3, .cons ⟨rx, ry⟩ rel, q3⟩)
def mergeK (kvs more : List (Key × V)) : List (Key × V) := more.foldl (fun acc kv => putK acc kv.1 kv.2) kvs
theorem KV.merge : ∀ {more : List (Key × V)} {rs : List (Key × Value)} {kvs : List (Key × V)} {vs : List (Key × Value)}, KV more rs → KV kvs vs → KV (mergeK kvs more) (merged vs rs) := by
  intro more rs kvs vs r
  unfold KV at r
  induction r generalizing kvs vs with
  | nil => intro q; exact q
  | @cons p q ps qs h t ih =>
    intro r0
    have e : KV (putK kvs p.1 p.2) (stored vs q.1 q.2) := by
      have := r0.put p.1 h.2
      rw [← h.1]; exact this
    exact ih e
theorem length_mergeK : ∀ (more kvs : List (Key × V)), (mergeK kvs more).length ≤ kvs.length + more.length
  | [], kvs => by show kvs.length ≤ kvs.length + 0; omega
  | p :: r, kvs => by
    have h1 := length_mergeK r (putK kvs p.1 p.2)
    have h2 := length_putK kvs p.1 p.2
    show (mergeK (putK kvs p.1 p.2) r).length ≤ _
    rw [List.length_cons]; omega
theorem carries_of {P : Program} {w : World} : ∀ {kvs : List (Key × V)} {ws : List (Value × Value)}, VV (kvs.map fun kv => (kV kv.1, kv.2)) ws → ∃ rs, Carries (mixKind P w) ws rs ∧ KV kvs rs
  | [], _, r => by rw [List.map_nil] at r; cases r; exact ⟨[], True.intro, .nil⟩
  | p :: kvs, _, r => by
    rw [List.map_cons] at r
    cases r with
    | @cons a b as bs h t =>
      obtain ⟨rs, c, q⟩ := carries_of (P := P) (w := w) t
      obtain ⟨b1, b2⟩ := b
      exact ⟨(p.1, b2) :: rs, ⟨kV_is h.1, rfl, c⟩, .cons ⟨rfl, h.2⟩ q⟩
def tDisp (trs : List (TE × TE)) : TE := fun σ H Q => ∀ p, H p = none → tPairs trs σ (upd H p (.dK [])) fun ps H2 => H2 p = some (.dK []) ∧ ∃ kvs : List (Key × V), ps = kvs.map (fun kv => (kV kv.1, kv.2)) ∧ kvs.length ≤ 15 ∧ Q (.ref p) (upd H2 p (.dK (mergeK [] kvs)))
theorem pe_disp {X : Cx} {pos : Pos} {keys : List (Option Expr)} {values : List Expr} {trs : List (TE × TE)} (h : PPs X pos keys values trs) (hall : keys.all (·.isSome) = true) (hl : keys.length = values.length) (h0 : keys ≠ [])
    (h15 : keys.length ≤ 15) : PE X (.Dict keys values pos) (tDisp trs) := by
  intro pins s σ H Q I q
  have hn := I.hok.fresh (Nat.le_refl s.heap.objs.size)
  have I1 := I.laid (a := s.heap.objs.size) (o := .dK []) (h' := s.heap.push { cls := .type "dict", data := .dict #[] }) (t' := s.toks) (fun _ _ q => Heap.get?_push_of_some _ q) (Nat.le_refl _) (dk_empty s.heap I.big)
  refine wpAny_Dict_walk (knd := mixKind X.prog X.w) hall hl h0 h15 (thn (h pins _ σ _ _ I1 (q _ hn)) fun ws s2 ⟨ps, H2, I2, rel, e, kvs, ep, lk, q2⟩ => ?_)
  subst ep
  obtain ⟨rs, c, rk⟩ := carries_of (P := X.prog) (w := X.w) rel
  obtain ⟨z, hd, vs0, r0, dd⟩ := dk_of I2.hok e
  cases r0
  refine ⟨rs, c, dd, fun h' dd' hs => ⟨.ref s.heap.objs.size, _, ?_, rfl, q2⟩⟩
  have hz : (mergeK [] kvs).length ≤ sizeLine := by
    have h1 := length_mergeK kvs []
    rw [List.length_nil] at h1
    rw [sizeLine_eq]; omega
  have he : ∃ q, h'.get? s.heap.objs.size = some q := let ⟨q, _, _, hq, _⟩ := dd'; ⟨q, hq⟩
  exact d_write I2 (by rw [e]; exact True.intro) hs he (dk_new hz hd (rk.merge .nil) dd')
section
variable {X : Cx} {pins : List (Addr × Obj)} {σ : St} {H : Hp} {s : Shared} {a : Addr} {y d : V} {u r : Value} {o : Option V} {A : Around} {E : Value → Shared → Prop}
end
section
variable {X : Cx} {o e f : Expr} {apos cpos : Pos} {td ty tx : TE}
end
section
variable {X : Cx} {pins : List (Addr × Obj)} {σ : St} {H : Hp} {s : Shared} {a : Addr} {kvs : List (Key × V)} {A : Around} {E : Value → Shared → Prop}
end
section
variable {X : Cx} {pins : List (Addr × Obj)} {σ : St} {H : Hp} {s : Shared} {a : Addr} {y : V} {u : Value} {A : Around} {E : Value → Shared → Prop}
end
end L2
namespace L2
section
variable {κ : Type} [DecidableEq κ]
end
end L2
set_option Elab.async false
set_option linter.all false
set_option maxRecDepth 100000
set_option maxHeartbeats 4000000
namespace L2
open PySem PySem.Spec PyProof.Rows
theorem closure_go {env : Env} (f : Str × NameKind → List (Str × Addr) → Sem (ForInStep (List (Str × Addr))))
    (hf : ∀ n k r, f (n, k) r = if (k == NameKind.free) = true then (cellOf env n >>= fun a => pure (.yield ((n, a) :: r))) else pure (.yield r)) :
    ∀ (l : List (Str × NameKind)) (acc : List (Str × Addr)), (∀ x ∈ l, x.2 = .free → ∃ c, env.cells.lookup x.1 = some c) → (∀ y c, acc.lookup y = some c → env.cells.lookup y = some c) →
      ∃ cl, (forIn l acc f : Sem (List (Str × Addr))) = pure cl ∧ (∀ y c, cl.lookup y = some c → env.cells.lookup y = some c) ∧ (∀ y, (∃ c, acc.lookup y = some c) → ∃ c, cl.lookup y = some c) ∧ ∀ y, (y, NameKind.free) ∈ l → ∃ c, cl.lookup y = some c
  | [], acc, _, ha => ⟨acc, by rw [List.forIn_nil], ha, fun _ h => h, fun _ h => by cases h⟩
  | (n, k) :: r, acc, h, ha => by
    rw [List.forIn_cons, hf]
    have hr : ∀ x ∈ r, x.2 = .free → ∃ c, env.cells.lookup x.1 = some c := fun x hx => h x (List.mem_cons_of_mem _ hx)
    by_cases hk : k = .free
    · subst hk
      obtain ⟨c, hc⟩ := h (n, .free) List.mem_cons_self rfl
      have hcell : cellOf env n = pure c := by unfold cellOf; rw [hc]
      have look : ∀ y, ((n, c) :: acc).lookup y = if (y == n) = true then some c else acc.lookup y := fun y => by
        rw [List.lookup_cons]; cases y == n <;> rfl
      obtain ⟨cl, e, r1, r2, r3⟩ := closure_go f hf r ((n, c) :: acc) hr (fun y c' q => by
        rw [look] at q
        split at q
        · rename_i hy
          have e := eq_of_beq hy
          subst e
          rw [← q]; exact hc
        · exact ha y c' q)
      rw [if_pos (by rfl), hcell]
      refine ⟨cl, e, r1, fun y ⟨c', q⟩ => r2 y ?_, fun y hy => ?_⟩
      · rw [look]
        split
        · exact ⟨_, rfl⟩
        · exact ⟨_, q⟩
      · rcases List.mem_cons.mp hy with q | q
        · injection q with q1 _
          exact r2 y ⟨c, by rw [look, q1, if_pos (by simp)]⟩
        · exact r3 y q
    · have hb : (k == NameKind.free) = false := by simpa using hk
      obtain ⟨cl, e, r1, r2, r3⟩ := closure_go f hf r acc hr ha
      rw [if_neg (by rw [hb]; decide)]
      refine ⟨cl, e, r1, r2, fun y hy => ?_⟩
      rcases List.mem_cons.mp hy with q | q
      · injection q with _ q2
        exact absurd q2.symm hk
      · exact r3 y q
theorem closureFor_ok {scope : Scope} {env : Env} (h : ∀ x ∈ scope.names, x.2 = .free → ∃ c, env.cells.lookup x.1 = some c) :
    ∃ cl, closureFor scope env = pure cl ∧ (∀ y c, cl.lookup y = some c → env.cells.lookup y = some c) ∧ ∀ y, (y, NameKind.free) ∈ scope.names → ∃ c, cl.lookup y = some c := by
  have g := closure_go (env := env) (fun x r => match x with | (name, kind) => if (kind == NameKind.free) = true then (do let a ← cellOf env name; pure (ForInStep.yield ((name, a) :: r))) else pure (ForInStep.yield r)) (fun _ _ _ => rfl) scope.names [] h (fun _ _ q => by cases q)
  obtain ⟨cl, e, r1, _, r3⟩ := g
  refine ⟨cl, ?_, r1, r3⟩
  have e2 : closureFor scope env = (forIn scope.names ([] : List (Str × Addr)) (fun x r => match x with | (name, kind) => if (kind == NameKind.free) = true then (do let a ← cellOf env name; pure (ForInStep.yield ((name, a) :: r))) else pure (ForInStep.yield r)) >>= fun r => pure r) := rfl
  rw [e2, e]
  rfl
def compOk (N : List Str) (sc scope : Scope) (N' : List Str) (ix : List (Option Nat)) : Bool :=
  (scope.names.all fun p => decide (p.2 ≠ .cell) && (decide (p.2 ≠ .local) || decide (scope.names.lookup p.1 = some .local)) && (decide (p.2 ≠ .free) || (decide (sc.names.lookup p.1 = some .cell) && decide (scope.names.lookup p.1 = some .free)))) &&
  decide N'.Nodup && decide (ix.length = N'.length) &&
  ((List.range ix.length).all fun j => match ix[j]? with
    | some (some i) => (match N'[j]? with | some y => decide (N[i]? = some y) && (scope.names.any fun p => decide (p.1 = y) && decide (p.2 = .free)) | none => false)
    | _ => true)
structure CompSc (N : List Str) (sc scope : Scope) (N' : List Str) (ix : List (Option Nat)) : Prop where
  kind : scope.kind = .function
  nocell : ∀ y ∈ scope.names, y.2 ≠ .cell
  names : ∀ y ∈ scope.names, y.2 = .local → scope.names.lookup y.1 = some .local
  nd : N'.Nodup
  len : ix.length = N'.length
  cap : ∀ (j i : Nat), ix[j]? = some (some i) → ∃ y, N'[j]? = some y ∧ N[i]? = some y ∧ (y, NameKind.free) ∈ scope.names
  free : ∀ y, (y, NameKind.free) ∈ scope.names → sc.names.lookup y = some .cell
  frees : ∀ y, (y, NameKind.free) ∈ scope.names → scope.names.lookup y = some .free
theorem CompSc.of {N : List Str} {sc scope : Scope} {N' : List Str} {ix : List (Option Nat)} (kind : scope.kind = .function) (h : compOk N sc scope N' ix = true) : CompSc N sc scope N' ix := by
  unfold compOk at h
  simp only [Bool.and_eq_true, List.all_eq_true, Bool.or_eq_true, decide_eq_true_eq] at h
  obtain ⟨⟨⟨h1, h2⟩, h3⟩, h4⟩ := h
  refine ⟨kind, fun y hy => (h1 y hy).1.1, fun y hy hl => ?_, h2, h3, fun j i e => ?_, fun y hy => ?_, fun y hy => ?_⟩
  · rcases (h1 y hy).1.2 with z | z
    · exact absurd hl z
    · exact z
  · have hj : j < ix.length := (List.getElem?_eq_some_iff.mp e).1
    have q := h4 j (List.mem_range.mpr hj)
    rw [e] at q
    dsimp only at q
    cases e2 : N'[j]? with
    | none => rw [e2] at q; cases q
    | some y =>
      rw [e2] at q
      simp only [Bool.and_eq_true, decide_eq_true_eq, List.any_eq_true] at q
      obtain ⟨q1, ⟨n, k⟩, q2, q3, q4⟩ := q
      dsimp only at q3 q4
      subst q3 q4
      exact ⟨_, rfl, q1, q2⟩
  · rcases (h1 _ hy).2 with z | z
    · exact absurd rfl z
    · exact z.1
  · rcases (h1 _ hy).2 with z | z
    · exact absurd rfl z
    · exact z.2
def inSt (ix : List (Option Nat)) (σ : St) : St := ix.map fun o => o.bind fun i => (σ[i]?).join
theorem inSt_get {ix : List (Option Nat)} {σ : St} {j : Nat} {v : V} (h : (inSt ix σ)[j]? = some (some v)) : ∃ i, ix[j]? = some (some i) ∧ σ[i]? = some (some v) := by
  unfold inSt at h
  rw [List.getElem?_map] at h
  cases e : ix[j]? with
  | none => rw [e] at h; cases h
  | some o =>
    rw [e] at h
    cases o with
    | none => cases h
    | some i =>
      refine ⟨i, rfl, ?_⟩
      have h' : (σ[i]?).join = some v := Option.some.inj h
      cases e2 : σ[i]? with
      | none => rw [e2] at h'; cases h'
      | some o2 => rw [e2] at h'; exact congrArg some h'
def cxIn (X : Cx) (scope : Scope) (N' : List Str) (C : Addr) (cl : List (Str × Addr)) (s : Shared) (H : Hp) (fp : List Addr) : Cx where
  prog := X.prog
  w := X.w
  K := X.K
  mg := X.mg
  base := X.base
  A := X.A
  N := N'
  s₀ := s
  H₀ := H
  env := compEnvC scope cl C X.env
  outer := X.stack
  stack := X.stack
  ex := fp
  fn := fun _ => false
  calm := X.calm
  pn := []
  xe := fun _ _ => False
theorem lookup_relabel {env : Env} : ∀ {names : List (Str × NameKind)} {x : Str} {k : NameKind}, (∀ y ∈ names, y.2 ≠ .cell) →
    (names.map fun (n, k) => if (k == NameKind.free && env.scope.kind == .function && env.kindOf n == some .cell) then (n, NameKind.cell) else (n, k)).lookup x = some k → k = .cell ∨ k = .free → (x, NameKind.free) ∈ names
  | [], _, _, _, h, _ => by simp at h
  | (n, k') :: r, x, k, hc, h, hk => by
    have ih := @lookup_relabel env r x k fun y hy => hc y (List.mem_cons_of_mem _ hy)
    change List.lookup x ((if (k' == NameKind.free && env.scope.kind == .function && env.kindOf n == some .cell) = true then (n, NameKind.cell) else (n, k')) :: _) = _ at h
    by_cases hx : x = n
    · subst hx
      by_cases hq : (k' == NameKind.free && env.scope.kind == .function && env.kindOf x == some .cell) = true
      · have hf : k' = .free := by
          simp only [Bool.and_eq_true] at hq
          exact eq_of_beq hq.1.1
        subst hf
        exact List.mem_cons_self
      · rw [if_neg hq] at h
        simp only [List.lookup_cons, beq_self_eq_true] at h
        have e : k' = k := Option.some.inj h
        subst e
        rcases hk with z | z
        · exact absurd z (hc (x, k') List.mem_cons_self)
        · subst z; exact List.mem_cons_self
    · have hb : (x == n) = false := beq_eq_false_iff_ne.mpr hx
      refine List.mem_cons_of_mem _ (ih ?_ hk)
      by_cases hq : (k' == NameKind.free && env.scope.kind == .function && env.kindOf n == some .cell) = true
      · rw [if_pos hq] at h
        simp only [List.lookup_cons, hb] at h
        exact h
      · rw [if_neg hq] at h
        simp only [List.lookup_cons, hb] at h
        exact h
theorem lookup_relabel_free {env : Env} : ∀ {names : List (Str × NameKind)} {x : Str}, names.lookup x = some .free →
    (names.map fun (n, k) => if (k == NameKind.free && env.scope.kind == .function && env.kindOf n == some .cell) then (n, NameKind.cell) else (n, k)).lookup x = some .cell ∨
    (names.map fun (n, k) => if (k == NameKind.free && env.scope.kind == .function && env.kindOf n == some .cell) then (n, NameKind.cell) else (n, k)).lookup x = some .free
  | [], _, h => by simp at h
  | (n, k') :: r, x, h => by
    have ih := @lookup_relabel_free env r x
    show List.lookup x ((if (k' == NameKind.free && env.scope.kind == .function && env.kindOf n == some .cell) = true then (n, NameKind.cell) else (n, k')) :: _) = _ ∨ List.lookup x ((if (k' == NameKind.free && env.scope.kind == .function && env.kindOf n == some .cell) = true then (n, NameKind.cell) else (n, k')) :: _) = _
    by_cases hx : x = n
    · subst hx
      simp only [List.lookup_cons, beq_self_eq_true] at h
      cases h
      by_cases hq : (NameKind.free == NameKind.free && env.scope.kind == .function && env.kindOf x == some .cell) = true
      · rw [if_pos hq]; left; simp [List.lookup_cons]
      · rw [if_neg hq]; right; simp [List.lookup_cons]
    · have hb : (x == n) = false := beq_eq_false_iff_ne.mpr hx
      simp only [List.lookup_cons, hb] at h
      by_cases hq : (k' == NameKind.free && env.scope.kind == .function && env.kindOf n == some .cell) = true
      · rw [if_pos hq]; simp only [List.lookup_cons, hb]; exact ih h
      · rw [if_neg hq]; simp only [List.lookup_cons, hb]; exact ih h
section
variable {X : Cx} {pins : List (Addr × Obj)} {σ : St} {H H' : Hp} {s : Shared}
theorem Inv.adopt {a : Addr} {o : HO} (I : Inv X pins σ H s) (hn : H a = none) (h1 : X.s₀.heap.objs.size ≤ a) (hL : a ≠ X.env.locals) (hC : ∀ x c, X.env.cells.lookup x = some c → c ≠ a) (hp : ∀ p ∈ X.pn ++ pins, p.1 ≠ a)
    (new : ObjOk X.prog X.w (upd H a o) s.heap a o) : Inv X pins σ (upd H a o) s := by
  have u : ∀ b ob, X.s₀.heap.get? b = some ob → b ≠ a := fun b ob e => Nat.ne_of_lt (Nat.lt_of_lt_of_le (Heap.lt_size e) h1)
  refine ⟨I.ok, I.os, I.bare, ⟨I.base.keep, I.base.slot, fun b ob e n hx => by rw [upd_ne (u b ob e)]; exact I.base.free b ob e n hx, I.base.there, fun b xs e => ?_, fun b ob xs e => ?_, fun b ps e => ?_⟩, I.loc, I.cell, ?_, fun x c e => ?_, fun p hq => ?_, fun b ob e => ?_, I.len⟩
  · have q := I.base.tups b xs e
    rw [upd_ne (ne_of_none q hn)]; exact q
  · have q := I.base.frzs b ob xs e
    rw [upd_ne (ne_of_none q hn)]; exact q
  · obtain ⟨more, q⟩ := I.base.tbls b ps e
    exact ⟨more, by rw [upd_ne (ne_of_none q hn)]; exact q⟩
  · rw [upd_ne (Ne.symm hL)]; exact I.free
  · rw [upd_ne (hC x c e)]; exact I.freeC x c e
  · obtain ⟨e, n, r⟩ := I.pin p hq
    exact ⟨e, by rw [upd_ne (hp p hq)]; exact n, r⟩
  · by_cases hb : b = a
    · subst hb
      rw [upd_same] at e
      cases e
      exact new
    · rw [upd_ne hb] at e
      exact (I.hok b ob e).stay (fun _ _ _ q => q) (fun c q => by rw [upd_ne (ne_of_none q hn)]; exact q) fun c xs q => by rw [upd_ne (ne_of_none q hn)]; exact q
structure Loose (X : Cx) (pins : List (Addr × Obj)) (H : Hp) (C : Addr) : Prop where
  no : H C = none
  nl : C ≠ X.env.locals
  ab : X.s₀.heap.objs.size ≤ C
  nc : ∀ x c, X.env.cells.lookup x = some c → c ≠ C
  np : ∀ p ∈ X.pn ++ pins, p.1 ≠ C
theorem Inv.loose {C : Addr} (I : Inv X pins σ H s) (hC : s.heap.objs.size ≤ C) (hn : H' C = none) : Loose X pins H' C :=
  let ⟨a, b, _, d, e, f⟩ := I.fpOk (H' := H') hC hn
  ⟨a, b, Nat.le_trans I.sz hC, e, f⟩
theorem Inv.same {C : Addr} {h' : Heap} {s' : Shared} (I : Inv X pins σ H s) (l : Loose X pins H C) (sb : Heap.SameBut C s.heap h') (e : s' = { s with heap := h' }) : Inv X pins σ H s' := by
  subst e
  exact I.turned (t' := s.toks) (fun b o hb q => (sb.2 b hb).trans q) l.no (l.nl) (.inr l.ab) l.nc l.np
theorem Inv.cxIn_ok {scope : Scope} {N' : List Str} {ix : List (Option Nat)} {C : Addr} {cl : List (Str × Addr)} {fp : List Addr} (I : Inv X pins σ H s) (S : CompSc X.N X.env.scope scope N' ix) (hC : s.heap.objs.size ≤ C)
    (c1 : ∀ y c, cl.lookup y = some c → X.env.cells.lookup y = some c) (c2 : ∀ y, (y, NameKind.free) ∈ scope.names → ∃ c, cl.lookup y = some c)
    (hf : ∀ b ∈ fp, FpOk X pins H b) (hlt : ∀ b ∈ fp, b < s.heap.objs.size) : (cxIn X scope N' C cl s H fp).Ok where
  mod := I.ok.mod
  kind := S.kind
  glob := I.ok.glob
  blt := I.ok.blt
  above := hC
  inj := fun x y c h1 h2 => I.ok.inj x y c (c1 x c h1) (c1 y c h2)
  has := fun x h => by
    rcases h with h | h
    · exact c2 x (lookup_relabel S.nocell h (.inl rfl))
    · exact c2 x (lookup_relabel S.nocell h (.inr rfl))
  cab := fun _ _ h => by cases h
  hd := I.ok.hd
  frames := I.ok.frames
  stk := .inl rfl
  exf := fun b hb => ⟨Nat.ne_of_lt (Nat.lt_of_lt_of_le (hlt b hb) hC), fun x c e => (hf b hb).2.2.2.2.1 x c (c1 x c e)⟩
  bs := I.bs
  bsz := Nat.le_trans I.ok.bsz I.sz
  noex := fun b o e hb => by
    rcases (hf b hb).2.2.2.1 with z | z
    · exact I.ok.noex b o e z
    · exact absurd (Nat.lt_of_lt_of_le (Heap.lt_size e) (Nat.le_trans I.ok.bsz z)) (Nat.lt_irrefl _)
  exfs := fun b hb z => by
    rcases List.mem_cons.mp (I.stkSub b z) with q | q
    · exact (hf b hb).2.1 q
    · exact (hf b hb).2.2.1 q
  funs := I.stack
  frf := I.stkFree
theorem Inv.cxIn {scope : Scope} {N' : List Str} {ix : List (Option Nat)} {C D : Addr} {oD : Obj} {cl : List (Str × Addr)} {fp : List Addr} {h' : Heap} {tk : Nat} {m : Str → Option Value} (I : Inv X pins σ H s) (S : CompSc X.N X.env.scope scope N' ix)
    (hC : s.heap.objs.size ≤ C) (hD : s.heap.objs.size ≤ D) (hDC : D ≠ C) (eD : h'.get? D = some oD) (dD : ∀ v, oD.data ≠ .cell v)
    (c1 : ∀ y c, cl.lookup y = some c → X.env.cells.lookup y = some c) (c2 : ∀ y, (y, NameKind.free) ∈ scope.names → ∃ c, cl.lookup y = some c)
    (hf : ∀ b ∈ fp, FpOk X pins H b) (hlt : ∀ b ∈ fp, b < s.heap.objs.size) (k : ∀ b o, s.heap.get? b = some o → h'.get? b = some o) (hn : h'.Ns C m) :
    Inv (cxIn X scope N' C cl s H fp) [(D, oD)] (inSt ix σ) H { s with heap := h', toks := tk } where
  ok := I.cxIn_ok S hC c1 c2 hf hlt
  os := rfl
  bare := I.bare
  base := Un.kept k
  loc := by
    refine ⟨m, hn, fun j y v e1 e2 e3 => ?_⟩
    obtain ⟨i, h1, h2⟩ := inSt_get e2
    obtain ⟨z, hz1, hz2, hz3⟩ := S.cap j i h1
    change N'[j]? = some y at e1
    rw [e1] at hz1
    cases hz1
    have hk := S.free y hz3
    obtain ⟨m0, hn0, hl⟩ := I.loc
    obtain ⟨u, ru, lk⟩ := hl i y v hz2 h2 (.inr (.inl hk))
    refine ⟨u, ru, .inr ⟨?_, ?_⟩⟩
    · exact lookup_relabel_free (env := X.env) (S.frees y hz3)
    · rcases lk with ⟨k1, _⟩ | ⟨_, c, hc, ic⟩
      · rw [show X.env.kindOf y = some .cell from hk] at k1; cases k1
      · obtain ⟨c', hc'⟩ := c2 y hz3
        have := c1 y c' hc'
        rw [hc] at this
        cases this
        obtain ⟨o, ho, hd⟩ := ic
        exact ⟨c, hc', o, k _ _ ho, hd⟩
  cell := fun y c e => by
    obtain ⟨v, o, ho, hd⟩ := I.cell y c (c1 y c e)
    exact ⟨v, o, k _ _ ho, hd⟩
  free := I.hok.fresh hC
  freeC := fun y c e => I.freeC y c (c1 y c e)
  pin := fun p hp => by
    have e : p = (D, oD) := by
      rcases List.mem_append.mp hp with z | z
      · cases z
      · exact List.mem_singleton.mp z
    subst e
    refine ⟨eD, I.hok.fresh hD, hDC, fun z => ?_, dD⟩
    rcases List.mem_cons.mp (I.stkSub D z) with q | q
    · exact absurd (Nat.lt_of_lt_of_le I.lt hD) (by rw [show D = X.env.locals from q]; exact Nat.lt_irrefl _)
    · exact I.nofs hD q
  hok := I.hok.kept k
  len := by
    show (inSt ix σ).length = N'.length
    unfold inSt
    rw [List.length_map]
    exact S.len
end
section
variable {prog : Program} {w : World} {A : Around} {R : Result → Shared → Prop} {s : Shared}
theorem compLoop_any {elt target iter : Expr} {ifs : List Expr} {scope : Scope} {pos : Pos} {it acc : Value} {env : Env} (I : Nat → Shared → Prop)
    (turn : ∀ n s, I n s → wpAny (model prog w) A (pyNext it) (fun r s₁ => match r with
      | none => R (.ok .next) s₁
      | some v => wpAny (model prog w) A (letOwnedTupleGo target it v) (fun _ s₁' => wpAny (model prog w) A (assign target env v) (fun _ s₂ =>
          wpAny (model prog w) A (forIn ifs true fun c r => if r = true then do let ok ← isTrue c env (eval c env); pure (ForInStep.yield ok) else pure (ForInStep.yield r)) (fun ok s₃ =>
            if ok = true then wpAny (model prog w) A (eval elt env) (fun x s₄ =>
              wpAny (model prog w) A (call (.builtin "list.append") [acc, x]) (fun _ s₅ => ∃ m, m < n ∧ I m s₅) (fun _ _ => False) s₄) (fun _ _ => False) s₃
            else ∃ m, m < n ∧ I m s₃) (fun _ _ => False) s₂) (fun _ _ => False) s₁') (fun _ _ => False) s₁) (fun _ _ => False) s)
    (n : Nat) (h : I n s) :
    codeAny (model prog w) A (.compLoop (.ListComp elt [⟨target, iter, ifs, 0⟩] scope pos) 0 it acc env) R s := by
  refine codeAny_loop rfl I (fun n s hI => ?_) n h
  show wpAny _ A ((compTurn (.ListComp elt [⟨target, iter, ifs, 0⟩] scope pos) 0 it acc env).onRaise (fun x => do noteFrame x env; theTreesLotGoes x)) _ _ s
  refine wpAny_noted ?_
  rw [compTurn_list]
  refine wpAny_bind (wpAny_standAt (wpAny_bind (wpAny_mono (turn n s hI) (fun r s₁ h₁ => ?_) fun _ _ h' => h'.elim)))
  cases r with
  | none => exact wpAny_pure h₁
  | some v =>
    refine wpAny_bind (wpAny_mono h₁ (fun _ s₁' h₁' => ?_) fun _ _ h' => h'.elim)
    refine wpAny_bind (wpAny_mono h₁' (fun _ s₂ h₂ => wpAny_bind (wpAny_mono h₂ (fun ok s₃ h₃ => ?_) fun _ _ h' => h'.elim)) fun _ _ h' => h'.elim)
    cases ok with
    | false => exact wpAny_pure ⟨rfl, h₃⟩
    | true =>
      exact wpAny_bind (wpAny_bind (wpAny_mono h₃ (fun x s₄ h₄ => wpAny_bind (wpAny_mono h₄ (fun _ s₅ h₅ => wpAny_pure (wpAny_pure ⟨rfl, h₅⟩)) fun _ _ h' => h'.elim)) fun _ _ h' => h'.elim))
end
def PIfs (X : Cx) (ifs : List Expr) (t : TT) : Prop :=
  ∀ (pins : List (Addr × Obj)) (s : Shared) (σ : St) (H : Hp) (Q : Bool → Hp → Prop), Inv X pins σ H s → t σ H Q →
    wpAny (model X.prog X.w) X.A (forIn ifs true fun c r => if r = true then do let ok ← isTrue c X.env (eval c X.env); pure (ForInStep.yield ok) else pure (ForInStep.yield r)) (TP X pins σ Q) X.xe s
def tYes : TT := fun _ H Q => Q true H
theorem pf_nil {X : Cx} : PIfs X [] tYes := fun _ _ _ H _ I h => wpAny_tests_nil ⟨H, I, h⟩
theorem pf_one {X : Cx} {c : Expr} {t : TT} (h : PT X c t) : PIfs X [c] t := fun pins s σ H Q I q => wpAny_tests_one (h pins s σ H Q I q)
def CompW (σ' : St) (j : Nat) (ti : TT) (te : TE) (Q : VK) (J : It) (H : Hp) : Prop :=
  ∃ W : Nat → Nat → List V → Hp → Prop, (∃ m, W 0 m [] H) ∧ ∀ i m ys H, W i m ys H →
    (J.stop i H ∧ ∀ D, H D = none → Q (.ref D) (upd H D (.lst ys))) ∨
    (J.go i H ∧ ys.length < sizeLine ∧ ∃ N : List V → Hp → Prop, (∀ ys' H', N ys' H' → ∃ m', m' < m ∧ W (i + 1) m' ys' H') ∧
      ∀ x H', J.yld i H x H' → ti (σ'.set j (some x)) H' fun b H2 => if b = true then te (σ'.set j (some x)) H2 fun y H3 => N (ys ++ [y]) H3 else N ys H2)
def tComp (ix : List (Option Nat)) (wi : TI) (j : Nat) (ti : TT) (te : TE) : TE := fun σ H Q => wi σ H fun J H1 => CompW (inSt ix σ) j ti te Q J H1
def CompT (σ' : St) (g : TG) (ti : TT) (te : TE) (Q : VK) (J : It) (H : Hp) : Prop :=
  ∃ W : Nat → Nat → List V → Hp → Prop, (∃ m, W 0 m [] H) ∧ ∀ i m ys H, W i m ys H →
    (J.stop i H ∧ ∀ D, H D = none → Q (.ref D) (upd H D (.lst ys))) ∨
    (J.go i H ∧ ys.length < sizeLine ∧ ∃ N : List V → Hp → Prop, (∀ ys' H', N ys' H' → ∃ m', m' < m ∧ W (i + 1) m' ys' H') ∧
      ∀ x H', J.yld i H x H' → g x σ' H' fun σ2 H1 => (σ2.length = σ'.length ∧ ∀ (k : Nat) z, σ'[k]? = some (some z) → σ2[k]? = some (some z)) ∧ ti σ2 H1 fun b H2 => if b = true then te σ2 H2 fun y H3 => N (ys ++ [y]) H3 else N ys H2)
def tCompT (ix : List (Option Nat)) (wi : TI) (g : TG) (ti : TT) (te : TE) : TE := fun σ H Q => wi σ H fun J H1 => CompT (inSt ix σ) g ti te Q J H1
section
variable {X : Cx} {pins : List (Addr × Obj)} {σ : St} {H : Hp} {s : Shared} {tg elt iter : Expr} {g : TG} {ifs : List Expr} {scope : Scope} {pos : Pos} {N' : List Str} {ix : List (Option Nat)} {wi : TI} {ti : TT} {te : TE}
theorem comp_runT {it : Addr} {fp : List Addr} {tn : Nat → Heap → Prop} {J : It} {cl : List (Str × Addr)} {E : Value → Shared → Prop} {RR : Value → Addr → Result → Shared → Prop} {Q : VK}
    (S : CompSc X.N X.env.scope scope N' ix) (hg : ∀ C cl s H fp, N'.Nodup → PG (cxIn X scope N' C cl s H fp) tg g) (hc : X.calm = true)
    (ht : ∀ C cl s H fp, PIfs (cxIn X scope N' C cl s H fp) ifs ti) (he : ∀ C cl s H fp, PE (cxIn X scope N' C cl s H fp) elt te)
    (c1 : ∀ y c, cl.lookup y = some c → X.env.cells.lookup y = some c) (c2 : ∀ y, (y, NameKind.free) ∈ scope.names → ∃ c, cl.lookup y = some c)
    (I : Inv X pins σ H s) (T : Turn X.prog X.w X.K tg J fp it tn) (st : tn 0 s.heap) (hf : ∀ b ∈ fp, FpOk X pins H b) (hW : CompT (inSt ix σ) g ti te Q J H)
    (hRR : ∀ D C H' s' m', Inv X pins σ H' s' → s'.heap.Ns C m' → Loose X pins H' C → s.heap.objs.size ≤ C → Q (.ref D) H' → RR (.ref D) C (.ok .next) s') :
    wpAny (model X.prog X.w) X.A (newList []) (fun acc s₃ => wpAny (model X.prog X.w) X.A (newFunctionEnv scope X.env.globals cl [] X.env.qual none .none (some X.env)) (fun cenv s₄ =>
      codeAny (model X.prog X.w) X.A (.compStart (.ListComp elt [⟨tg, iter, ifs, 0⟩] scope pos) 0 (.ref it) acc { cenv with scope := relabel scope X.env }) (RR acc cenv.locals) s₄) E s₃) E s := by
  obtain ⟨W, ⟨m0, w0⟩, turn⟩ := hW
  have hlt : ∀ b ∈ fp, b < s.heap.objs.size := fun b hb => let ⟨_, e, _⟩ := T.obj _ _ st b hb; Heap.lt_size e
  refine wpAny_newObj_type (wpAny_newFunctionEnv S.nocell (by intro y hy; simp at hy) (fun h₁ hns₁ hsb₁ => ?_) S.kind)
  dsimp only at hns₁ hsb₁ ⊢
  generalize hH2 : s.heap.push { cls := .type "list", dict := none, data := .seq ([] : List Value).toArray } = H2 at hns₁ hsb₁ ⊢
  have hC : H2.objs.size = s.heap.objs.size + 1 := by rw [← hH2, Heap.size_push]
  have hDC : s.heap.objs.size ≠ H2.objs.size := by rw [hC]; exact Nat.ne_of_lt (Nat.lt_succ_self _)
  have hCle : s.heap.objs.size ≤ H2.objs.size := by rw [hC]; exact Nat.le_succ _
  have old : ∀ b o, s.heap.get? b = some o → h₁.get? b = some o := fun b o e => hsb₁.extBut b o (by rw [hC]; exact Nat.ne_of_lt (Nat.lt_succ_of_lt (Heap.lt_size e))) (Heap.get?_push_of_some _ (hH2 ▸ Heap.get?_push_of_some _ e))
  have hacc : h₁.get? s.heap.objs.size = some { cls := .type "list", data := .seq ([] : List Value).toArray 0 } := hsb₁.extBut _ _ hDC (Heap.get?_push_of_some _ (hH2 ▸ Heap.get?_push_size _ rfl))
  have st1 : tn 0 h₁ := T.keep _ _ _ st fun b hb o e => old b o e
  have loop : ∀ s₃ : Shared, s₃ = { s with heap := h₁, toks := s.toks + ([] : List (Str × Value)).length } →
      codeAny (model X.prog X.w) X.A (.compLoop (.ListComp elt [⟨tg, iter, ifs, 0⟩] scope pos) 0 (.ref it) (.ref s.heap.objs.size) (compEnvC scope cl H2.objs.size X.env))
        (RR (.ref s.heap.objs.size) H2.objs.size) s₃ := by
    rintro s₃ rfl
    generalize hX' : cxIn X scope N' H2.objs.size cl s H fp = X'
    have I0 : Inv X' [(s.heap.objs.size, { cls := .type "list", data := .seq ([] : List Value).toArray 0 })] (inSt ix σ) H { s with heap := h₁, toks := s.toks + ([] : List (Str × Value)).length } := by
      rw [← hX']
      exact I.cxIn S hCle (Nat.le_refl _) hDC hacc (fun v z => by cases z) c1 c2 hf hlt old hns₁
    have stat : ∀ {H' : Hp} {o : Obj}, (∀ b ∈ fp, H' b = none) → ∀ b ∈ fp, FpOk X' [(s.heap.objs.size, o)] H' b := fun {H' o} hn b hb => by
      rw [← hX']
      refine ⟨hn b hb, Nat.ne_of_lt (Nat.lt_of_lt_of_le (hlt b hb) hCle), fun z => ?_, .inl hb, fun y c e => (hf b hb).2.2.2.2.1 y c (c1 y c e), fun p hp z => ?_⟩
      · rcases List.mem_cons.mp (I.stkSub b z) with q | q
        · exact (hf b hb).2.1 q
        · exact (hf b hb).2.2.1 q
      · have e : p = (s.heap.objs.size, o) := by
          rcases List.mem_append.mp hp with q | q
          · cases q
          · exact List.mem_singleton.mp q
        subst e
        exact absurd (hlt b hb) (by rw [← z]; exact Nat.lt_irrefl _)
    have xP : X'.prog = X.prog := by rw [← hX']; rfl
    have xw : X'.w = X.w := by rw [← hX']; rfl
    have xK : X'.K = X.K := by rw [← hX']; rfl
    have xc : X'.calm = true := by rw [← hX']; exact hc
    have xA : X'.A = X.A := by rw [← hX']; rfl
    have xe : X'.env = compEnvC scope cl H2.objs.size X.env := by rw [← hX']; rfl
    have xx : X'.xe = fun _ _ => False := by rw [← hX']; rfl
    have xN : X'.N = N' := by rw [← hX']; rfl
    have ht' : PIfs X' ifs ti := by rw [← hX']; exact ht _ _ _ _ _
    have he' : PE X' elt te := by rw [← hX']; exact he _ _ _ _ _
    have hg' : PG X' tg g := by rw [← hX']; exact hg _ _ _ _ _ S.nd
    rw [← xA, ← xP, ← xw, ← xe]
    refine compLoop_any (fun k s' => ∃ i ys us n H', Inv X' [(s.heap.objs.size, { cls := .type "list", data := .seq (us : List Value).toArray n })] (inSt ix σ) H' s' ∧ Vals ys us ∧ ys.length ≤ sizeLine ∧ tn i s'.heap ∧ (∀ b ∈ fp, H' b = none) ∧ W i k ys H') ?_ m0
      ⟨0, [], [], 0, H, I0, .nil, Nat.zero_le _, st1, fun b hb => (hf b hb).1, w0⟩
    rintro k s3 ⟨i, ys, us, n, H3, I3, rv, hz, st3, fr3, w3⟩
    rcases turn i k ys H3 w3 with ⟨stop, qn⟩ | ⟨go, hz', N, hN, step⟩
    · rw [← xP, ← xw, ← xK] at T
      refine thn (T.done X' rfl rfl rfl xc i _ s3 (inSt ix σ) H3 _ I3 (stat fr3) st3 stop) fun r s4 ⟨hr, I4⟩ => ?_
      subst hr
      obtain ⟨m', hn', _⟩ := id I4.loc
      rw [xe] at hn'
      obtain ⟨eD, nD, _⟩ := I4.pin _ (List.mem_append_right _ List.mem_cons_self)
      have un : Un (frs X.stack) fp H H3 s.heap s4.heap := by have := I4.base; rw [← hX'] at this; exact this
      have os : s4.os = s.os := by have := I4.os; rw [← hX'] at this; exact this
      have hok : HOk X.prog X.w H3 s4.heap := by have := I4.hok; rw [xP, xw] at this; exact this
      have hCn : H3 H2.objs.size = none := by have := I4.free; rw [xe] at this; exact this
      have I5 : Inv X pins σ H3 s4 := I.call' os un hok I4.bare fun b hb => let ⟨_, a, _, c, d, e⟩ := hf b hb; ⟨c, a, d, e⟩
      have lD : Loose X pins H3 s.heap.objs.size := I.loose (Nat.le_refl _) nD
      have I6 := I5.adopt (o := .lst ys) lD.no lD.ab lD.nl lD.nc lD.np ⟨hz, us, n, rv, eD⟩
      exact hRR _ _ _ _ m' I6 hn' (I.loose hCle (by rw [upd_ne (Ne.symm hDC)]; exact hCn)) hCle (qn _ nD)
    · have T' := T
      rw [← xP, ← xw, ← xK] at T'
      refine thn (T'.item X' rfl rfl rfl xc i _ s3 (inSt ix σ) H3 _ I3 (stat fr3) st3 go) fun r s4 ⟨u, hr, h4⟩ => ?_
      subst hr
      refine thn h4 fun _ s5 ⟨v, H5, I5, r5, y5, st5, fr5⟩ => ?_
      have I5' := I5.pinned (stat fr5) (T.obj _ _ st5)
      have t5 := hg' _ s5 _ H5 v u _ I5' r5 (step v H5 y5)
      rw [xx] at t5
      refine thn t5 fun _ s6 ⟨σ6, H6, I6, ⟨kl, kw⟩, q6⟩ => ?_
      have t6 := ht' _ s6 _ H6 _ I6 q6
      rw [xx] at t6
      refine thn t6 fun ok s7 ⟨H7, I7, q7⟩ => ?_
      have weak : ∀ {H8 : Hp} {s8 : Shared}, Inv X' ([(s.heap.objs.size, { cls := .type "list", data := .seq us.toArray n })] ++ pinsAt fp s5.heap) σ6 H8 s8 →
          Inv X' ([(s.heap.objs.size, { cls := .type "list", data := .seq us.toArray n })] ++ pinsAt fp s5.heap) (inSt ix σ) H8 s8 ∧ tn (i + 1) s8.heap ∧ ∀ b ∈ fp, H8 b = none := fun {H8 s8} I8 => by
        refine ⟨I8.weak kl.symm kw, T.keep _ _ _ st5 fun b hb o e => (I8.pin (b, o) (List.mem_append_right _ (List.mem_append_right _ (mem_pinsAt hb e)))).1, fun b hb => ?_⟩
        · obtain ⟨o, e, d⟩ := T.obj _ _ st5 b hb
          exact (I8.pin (b, o) (List.mem_append_right _ (List.mem_append_right _ (mem_pinsAt hb e)))).2.1
      cases ok with
      | false =>
        have q7' : N ys H7 := q7
        obtain ⟨m', hm, w7⟩ := hN ys H7 q7'
        obtain ⟨J7, st7, fr7⟩ := weak I7
        exact ⟨m', hm, i + 1, ys, us, n, H7, J7.unpinned, rv, hz, st7, fr7, w7⟩
      | true =>
        have q7' : te σ6 H7 fun y H3 => N (ys ++ [y]) H3 := q7
        have t8 := he' _ s7 _ H7 _ I7 q7'
        rw [xx] at t8
        show wpAny _ _ _ _ _ _
        refine thn t8 fun uy s8 ⟨y, H8, I8, r8, n8⟩ => ?_
        obtain ⟨m', hm, w8⟩ := hN _ _ n8
        obtain ⟨J8, st8, fr8⟩ := weak I8
        have K8 := J8.unpinned
        obtain ⟨eD, nD, neL, nfs, _⟩ := K8.pin _ (List.mem_append_right _ List.mem_cons_self)
        have hl := rv.length
        refine call_meets F.slot_list_append ⟨_, eD, rfl⟩ F.entry_list_append (F.args_list_append_2 _ _) (PySem.list_append s.heap.objs.size us.toArray n uy (by rw [List.size_toArray]; omega)) ⟨eD, ?_⟩
        have eD2 := PySem.IsL.update eD (·.push uy)
        have dD : ∀ p ∈ X'.pn ++ [], p.1 ≠ s.heap.objs.size := fun p hp => by
          rw [← hX'] at hp
          rcases List.mem_append.mp hp with q | q <;> cases q
        have K0 : Inv X' [] (inSt ix σ) H8 s8 := K8.pins_of fun p hp => by cases hp
        have K9 := K0.turned (t' := s8.toks) (h' := s8.heap.update s.heap.objs.size (Obj.mapSeq (·.push uy))) (it := s.heap.objs.size) (fun b o hb q => (Heap.get?_update_other s8.heap _ (Ne.symm hb)).trans q) nD neL (.inr (by rw [← hX']; exact Nat.le_refl _)) (fun y' c e z => by
          rw [xe] at e
          obtain ⟨v', q⟩ := I.cell y' c (c1 y' c e)
          exact absurd q.lt (by rw [z]; exact Nat.lt_irrefl _)) dD
        refine ⟨m', hm, i + 1, ys ++ [y], us ++ [uy], (if ((us.toArray.push uy).size == us.toArray.size) = true then n else n + 1), H8, K9.pins_of fun p hp => ?_, rv.append (.cons r8 .nil), by rw [List.length_append, List.length_singleton]; omega, ?_, fr8, w8⟩
        · have e := List.mem_singleton.mp hp
          subst e
          exact ⟨by rw [show (us ++ [uy]).toArray = us.toArray.push uy by simp]; exact eD2, nD, neL, nfs, fun v z => by cases z⟩
        · exact T.keep _ _ _ st8 fun b hb o e => (Heap.get?_update_other s8.heap _ (Nat.ne_of_gt (hlt b hb))).trans e
  exact codeAny_compStart_list (loop _ rfl) (T.self X.A 0 _ _ _ st1 (loop _ rfl))
end
section
variable {X : Cx} {pins : List (Addr × Obj)} {σ : St} {H : Hp} {s : Shared} {x : Str} {px : Pos} {elt iter : Expr} {ifs : List Expr} {scope : Scope} {pos : Pos} {N' : List Str} {ix : List (Option Nat)} {j : Nat} {wi : TI} {ti : TT} {te : TE}
theorem compW_T {Q : VK} {J : It} {H : Hp} (hij : ix[j]? = some none) (h : CompW (inSt ix σ) j ti te Q J H) : CompT (inSt ix σ) (gName j) ti te Q J H := by
  obtain ⟨W, w0, turn⟩ := h
  refine ⟨W, w0, fun i m ys H w => ?_⟩
  rcases turn i m ys H w with z | ⟨go, hz, N, hN, step⟩
  · exact .inl z
  · refine .inr ⟨go, hz, N, hN, fun x H' y => ⟨⟨by simp, fun k z e => ?_⟩, step x H' y⟩⟩
    by_cases hk : j = k
    · subst hk
      exfalso
      obtain ⟨i', q1, _⟩ := inSt_get e
      rw [hij] at q1
      cases q1
    · rw [List.getElem?_set_ne hk]; exact e
theorem pg_own {C : Addr} {cl : List (Str × Addr)} {s : Shared} {H : Hp} {fp : List Addr} (nd : N'.Nodup) (hj : N'[j]? = some x) (hx : scope.names.lookup x = some .local) : PG (cxIn X scope N' C cl s H fp) (.Name x px) (gName j) :=
  pg_name nd hj (.inl (lookup_relabel_local hx)) (.inr (lookup_relabel_local hx))
theorem comp_clos (I : Inv X pins σ H s) (S : CompSc X.N X.env.scope scope N' ix) : ∃ cl, closureFor scope X.env = pure cl ∧ (∀ y c, cl.lookup y = some c → X.env.cells.lookup y = some c) ∧ ∀ y, (y, NameKind.free) ∈ scope.names → ∃ c, cl.lookup y = some c :=
  closureFor_ok fun ⟨n, k⟩ hy hk => by
    dsimp only at hk
    subst hk
    exact I.ok.has n (.inl (S.free n hy))
theorem pe_comp {N' : List Str} {ix : List (Option Nat)} (S : CompSc X.N X.env.scope scope N' ix) (hj : N'[0]? = some x) (hij : ix[0]? = some none) (hx : scope.names.lookup x = some .local) (hc : X.calm = true) (hi : PI X (.Name x px) iter wi)
    (ht : ∀ C cl s H fp, PIfs (cxIn X scope N' C cl s H fp) ifs ti) (he : ∀ C cl s H fp, PE (cxIn X scope N' C cl s H fp) elt te) (hs : ∀ x, foldedSetIterable iter X.env x = pure x) :
    PE X (.ListComp elt [⟨.Name x px, iter, ifs, 0⟩] scope pos) (tComp ix wi 0 ti te) := by
  intro pins s σ H Q I h
  rw [eval_ListComp]
  obtain ⟨cl, hcl, c1, c2⟩ := comp_clos I S
  refine wpAny_comprehension_free (use := none) rfl hs hcl S.kind S.names (thn (hi pins s σ H _ I h) fun v s1 h1 => thn h1 fun itv s2 h2 => ?_)
  obtain ⟨it, fp, tn, J, H2, e, I2, T, st2, f2, hW⟩ := h2
  subst e
  refine comp_runT (RR := fun acc C => compPost (model X.prog X.w) X.A X.xe none (EP X pins σ Q) acc C) S (fun _ _ _ _ _ nd => pg_own nd hj hx) hc ht he c1 c2 I2 T st2 f2 (compW_T hij hW) fun D C H' s' m' I' hn lo _ q => ?_
  exact ⟨m', hn, fun h' hs' => ⟨.ref D, H', I'.same lo hs' rfl, rfl, q⟩⟩
theorem ps_setComp {y : Str} {py spos : Pos} {i : Nat} {N' : List Str} {ix : List (Option Nat)} (hN : X.N.Nodup) (hi' : X.N[i]? = some y) (hy : X.env.scope.names.lookup y = some .local)
    (S : CompSc X.N X.env.scope scope N' ix) (hj : N'[0]? = some x) (hij : ix[0]? = some none) (hx : scope.names.lookup x = some .local) (hc : X.calm = true) (hi : PI X (.Name x px) iter wi)
    (ht : ∀ C cl s H fp, PIfs (cxIn X scope N' C cl s H fp) ifs ti) (he : ∀ C cl s H fp, PE (cxIn X scope N' C cl s H fp) elt te)
    (hsw : swapsWith (.ListComp elt [⟨.Name x px, iter, ifs, 0⟩] scope pos) (some (.Name y py)) spos.line X.env = pure true := by rfl) (hs : ∀ x, foldedSetIterable iter X.env x = pure x := by intro _; rfl) :
    PS X (.Assign [.Name y py] (.ListComp elt [⟨.Name x px, iter, ifs, 0⟩] scope pos) spos) (tAsg (tComp ix wi 0 ti te) (gName i)) := by
  intro pins s σ H D I h
  obtain ⟨cl, hcl, c1, c2⟩ := comp_clos I S
  rw [exec_Assign_Name_used _ _ _ _ hsw]
  refine wpAny_bind (wpAny_standAt (wpAny_bind ?_))
  show wpAny _ X.A (do let _ ← comprehension (.ListComp elt [⟨.Name x px, iter, ifs, 0⟩] scope pos) scope X.env _ (newList []) false (eval iter X.env) (some (assign (.Name y py) X.env))) _ _ s
  refine wpAny_bind (wpAny_mono (wpAny_comprehension_free (use := some (assign (.Name y py) X.env)) (Q := fun _ s' => SP X pins D .next s') rfl hs hcl S.kind S.names
    (thn (hi pins s σ H _ I h) fun v s1 h1 => thn h1 fun itv s2 h2 => ?_)) (fun _ s' hq => wpAny_pure (wpAny_pure hq)) fun _ _ e => e)
  obtain ⟨it, fp, tn, J, H2, e, I2, T, st2, f2, hW⟩ := h2
  subst e
  refine comp_runT (RR := fun acc C => compPost (model X.prog X.w) X.A X.xe (some (assign (.Name y py) X.env)) (fun _ s' => SP X pins D .next s') acc C) S (fun _ _ _ _ _ nd => pg_own nd hj hx) hc ht he c1 c2 I2 T st2 f2 (compW_T hij hW) fun D' C H' s' m' I' hn lo hC q => ?_
  show wpAny _ X.A (assign (.Name y py) X.env (.ref D')) _ _ _
  refine wpAny_assign_Name (store_ok2 (i := i) (v := .ref D') I' hN hi' (.inl hy) rfl (fun s3 I3 ⟨a, sb, ha⟩ => ?_) (.inr hy))
  have hCa : C ≠ a := by
    rcases ha with z | z
    · rw [z]; exact lo.nl
    · exact Ne.symm (lo.nc _ _ z)
  refine ⟨m', hn.sameBut sb hCa, fun h' hs' => ?_⟩
  exact ⟨_, H', I3.same lo hs' rfl, q⟩
end
end L2
set_option Elab.async false
set_option linter.all false
set_option maxRecDepth 100000
set_option maxHeartbeats 4000000
namespace L2
open PySem PySem.Spec PyProof.Rows
section
variable {X : Cx}
def clsV : V → Option Value
  | .ty n => some (.type n)
  | .ref a => some (.ref a)
  | _ => none
theorem clsV_rel {x : V} {c u : Value} (h : clsV x = some c) (r : RelV x u) : u = c := by
  cases x <;> first | (cases h; exact r) | cases h
theorem call_sum (hc : X.calm = true) : CallR X (.builtin "sum") (fun xs H Q => ∃ (p : Addr) (ns : List Int), xs = [.ref p] ∧ SqL X.K H p (ns.map V.int) ∧ Q (.int ns.sum) H) := by
  intro pins s σ H xs us Q I r h
  obtain ⟨p, ns, rfl, hq, q⟩ := h
  obtain ⟨u, rfl, rx⟩ := vals1 r
  cases rx
  obtain ⟨its, rv, pl, hz⟩ := I.list hq
  have hi := intsAre_of rv
  obtain ⟨xs', hx⟩ := hi.allInts.items
  have hl' : s.heap.IsList p (intItems xs') := hx ▸ pl.isList
  refine sum_intListG (I.ok.hd hc) hl' fun h' tk t' hk => ?_
  have e1 : ns = xs'.toList.map (·.1) := by
    rw [← nums_intItems, ← hx]
    exact (show numsOf its.toArray.toList = ns from hi.numsOf).symm
  have e2 : preSum (numAt xs') xs'.size = ns.sum := by
    rw [preSum_eq, List.take_of_length_le (by simp), e1]
  rw [e2]
  exact ⟨.int ns.sum, H, I.kept hk, ⟨_, rfl⟩, q⟩
theorem bools_of {bs : List Bool} : ∀ {us : List Value}, Vals (bs.map V.bl) us → ∀ (i : Nat) v, us[i]? = some v → ∃ b, bs[i]? = some b ∧ v = .bool b := by
  intro us r i v e
  have hl := r.length
  have hi : i < us.length := (List.getElem?_eq_some_iff.mp e).1
  rw [List.length_map] at hl
  have hb : bs[i]? = some bs[i] := List.getElem?_eq_getElem (by omega)
  obtain ⟨u, e2, ru⟩ := r.get (i := i) (x := V.bl bs[i]) (by rw [List.getElem?_map, hb]; rfl)
  rw [e] at e2
  cases e2
  exact ⟨_, hb, ru⟩
theorem range_all_bs (bs : List Bool) : ((List.range bs.length).all fun i => (bs[i]?).getD true) = bs.all id := by
  rw [Bool.eq_iff_iff, List.all_eq_true, List.all_eq_true]
  constructor
  · intro h b hb
    obtain ⟨i, hi, rfl⟩ := List.getElem_of_mem hb
    have := h i (List.mem_range.mpr hi)
    simpa [List.getElem?_eq_getElem hi] using this
  · intro h i hi
    have hi' := List.mem_range.mp hi
    simpa [List.getElem?_eq_getElem hi'] using h _ (List.getElem_mem hi')
theorem range_any_bs (bs : List Bool) : ((List.range bs.length).any fun i => (bs[i]?).getD false) = bs.any id := by
  rw [Bool.eq_iff_iff, List.any_eq_true, List.any_eq_true]
  constructor
  · rintro ⟨i, hi, e⟩
    have hi' := List.mem_range.mp hi
    simp only [List.getElem?_eq_getElem hi', Option.getD_some] at e
    exact ⟨_, List.getElem_mem hi', e⟩
  · rintro ⟨b, hb, e⟩
    obtain ⟨i, hi, rfl⟩ := List.getElem_of_mem hb
    exact ⟨i, List.mem_range.mpr hi, by simp only [List.getElem?_eq_getElem hi, Option.getD_some]; exact e⟩
theorem iter_kept {s : Shared} {h' : Heap} {o : Obj} (hk : ∀ b x, b ∉ [s.heap.objs.size] → (s.heap.push o).get? b = some x → h'.get? b = some x) : ∀ b x, s.heap.get? b = some x → h'.get? b = some x :=
  fun b x e => hk b x (fun hm => by rw [List.mem_singleton.mp hm] at e; exact Nat.lt_irrefl _ (Heap.lt_size e)) (Heap.get?_push_of_some _ e)
theorem call_all (hc : X.calm = true) : CallR X (.builtin "all") (fun xs H Q => ∃ (p : Addr) (bs : List Bool), xs = [.ref p] ∧ SqL X.K H p (bs.map V.bl) ∧ Q (.bl (bs.all id)) H) := by
  intro pins s σ H xs us Q I r h
  obtain ⟨p, bs, rfl, hq, q⟩ := h
  obtain ⟨u, rfl, rx⟩ := vals1 r
  cases rx
  obtain ⟨its, rv, pl, hz⟩ := I.list hq
  have hl := pl.isList
  have hlt : p < s.heap.objs.size := by obtain ⟨_, e, _⟩ := hl; exact Heap.lt_size e
  have hlen : bs.length = its.length := by have := rv.length; rw [List.length_map] at this; exact this
  refine call_all_walk (wpAny_pyIter_list hl ?_)
  refine ⟨s.heap.objs.size, [s.heap.objs.size, p], [s.heap.objs.size], its.toArray.size, _, _, fun i => (bs[i]?).getD true, rfl, Walks.list (A := X.A.in1) (I.ok.hd hc) _ p (Nat.ne_of_lt hlt) its.toArray,
    ⟨⟨_, Heap.get?_push_size _ rfl, rfl, rfl⟩, hl.push _⟩, fun i v s' Q' E' hP hQ => ?_, fun h' tk hk => ?_⟩
  · obtain ⟨b, e, rfl⟩ := bools_of rv i v (by simpa using hP)
    simp only [e, Option.getD_some] at hQ
    exact wpAny_truthy_bool hQ
  · have e : ((List.range its.toArray.size).all fun i => (bs[i]?).getD true) = bs.all id := by
      rw [List.size_toArray, ← hlen]; exact range_all_bs bs
    rw [e]
    exact ⟨.bl _, H, I.kept (iter_kept hk), rfl, q⟩
theorem call_any (hc : X.calm = true) : CallR X (.builtin "any") (fun xs H Q => ∃ (p : Addr) (bs : List Bool), xs = [.ref p] ∧ SqL X.K H p (bs.map V.bl) ∧ Q (.bl (bs.any id)) H) := by
  intro pins s σ H xs us Q I r h
  obtain ⟨p, bs, rfl, hq, q⟩ := h
  obtain ⟨u, rfl, rx⟩ := vals1 r
  cases rx
  obtain ⟨its, rv, pl, hz⟩ := I.list hq
  have hl := pl.isList
  have hlt : p < s.heap.objs.size := by obtain ⟨_, e, _⟩ := hl; exact Heap.lt_size e
  have hlen : bs.length = its.length := by have := rv.length; rw [List.length_map] at this; exact this
  refine call_any_walk (wpAny_pyIter_list hl ?_)
  refine ⟨s.heap.objs.size, [s.heap.objs.size, p], [s.heap.objs.size], its.toArray.size, _, _, fun i => (bs[i]?).getD false, rfl, Walks.list (A := X.A.in1) (I.ok.hd hc) _ p (Nat.ne_of_lt hlt) its.toArray,
    ⟨⟨_, Heap.get?_push_size _ rfl, rfl, rfl⟩, hl.push _⟩, fun i v s' Q' E' hP hQ => ?_, fun h' tk hk => ?_⟩
  · obtain ⟨b, e, rfl⟩ := bools_of rv i v (by simpa using hP)
    simp only [e, Option.getD_some] at hQ
    exact wpAny_truthy_bool hQ
  · have e : ((List.range its.toArray.size).any fun i => (bs[i]?).getD false) = bs.any id := by
      rw [List.size_toArray, ← hlen]; exact range_any_bs bs
    rw [e]
    exact ⟨.bl _, H, I.kept (iter_kept hk), rfl, q⟩
def DEq (K : PySem.W.Frag) (H : Hp) : Nat → V → V → Prop
  | 0, x, y => flatV x = true ∧ flatV y = true ∧ eqV x y = true
  | n + 1, x, y => ∃ a b xs ys, x = .ref a ∧ y = .ref b ∧ SqL K H a xs ∧ SqL K H b ys ∧ xs.length = ys.length ∧ ∀ (i : Nat) u v, xs[i]? = some u → ys[i]? = some v → DEq K H n u v
theorem all_true (n : Nat) : ((List.range n).all fun _ => true) = true := by simp
theorem deq_at {pins : List (Addr × Obj)} {σ : St} {H : Hp} {s : Shared} (I : Inv X pins σ H s) : ∀ (n : Nat) (A : Around) {x y : V} {u v : Value}, A.units + n < cLine → RelV x u → RelV y v → DEq X.K H n x y → SeqAt.EqAt A s u v true
  | 0, A, x, y, u, v, _, rx, ry, ⟨h1, h2, h3⟩ => by
    have := eqAt_V (A := A) (s := s) rx ry h1 h2
    rw [h3] at this
    exact this
  | n + 1, A, x, y, u, v, hu, rx, ry, ⟨a, b, xs, ys, ex, ey, ha, hb, hl, he⟩ => by
    subst ex ey
    cases rx
    cases ry
    by_cases hab : a = b
    · subst hab
      exact SeqAt.EqAt.same _
    · obtain ⟨its, rv, pl, hz⟩ := I.list ha
      obtain ⟨its2, rv2, pl2, hz2⟩ := I.list hb
      have l1 := rv.length
      have l2 := rv2.length
      have q := SeqAt.RcAt.lists (A := A) (s := s) (e := fun _ => true) pl.isList pl2.isList (by simp only [List.size_toArray]; omega) (by omega) (fun j h1 h2 => by
        simp only [List.size_toArray] at h1 h2
        obtain ⟨w1, e1, r1⟩ := rv.get (List.getElem?_eq_getElem (l := xs) (i := j) (by omega))
        obtain ⟨w2, e2, r2⟩ := rv2.get (List.getElem?_eq_getElem (l := ys) (i := j) (by omega))
        have f1 : its.toArray[j] = w1 := by
          rw [List.getElem?_eq_getElem h1] at e1
          simpa using Option.some.inj e1
        have f2 : its2.toArray[j] = w2 := by
          rw [List.getElem?_eq_getElem h2] at e2
          simpa using Option.some.inj e2
        rw [f1, f2]
        exact deq_at I n A.in1 (by show A.units + 1 + n < cLine; omega) r1 r2 (he j _ _ (List.getElem?_eq_getElem (by omega)) (List.getElem?_eq_getElem (by omega))))
      rw [all_true] at q
      exact SeqAt.EqAt.of_refs hab q
def rAlike (K : PySem.W.Frag) (n : Nat) (b : Bool) : R2 := fun x y H Q => DEq K H (n + 1) x y ∧ Q (.bl b) H
theorem alike_items {pins : List (Addr × Obj)} {σ : St} {H : Hp} {s : Shared} (I : Inv X pins σ H s) {n : Nat} {A : Around} (hu : A.units + (n + 1) < cLine) {xs ys : List V} {its its2 : List Value} (rv : Vals xs its) (rv2 : Vals ys its2) (hl : xs.length = ys.length)
    (he : ∀ (i : Nat) u v, xs[i]? = some u → ys[i]? = some v → DEq X.K H n u v) : ∀ j (h1 : j < its.toArray.size) (h2 : j < its2.toArray.size), SeqAt.EqAt A.in1 s its.toArray[j] its2.toArray[j] true := fun j h1 h2 => by
  have l1 := rv.length
  have l2 := rv2.length
  simp only [List.size_toArray] at h1 h2
  obtain ⟨w1, e1, r1⟩ := rv.get (List.getElem?_eq_getElem (l := xs) (i := j) (by omega))
  obtain ⟨w2, e2, r2⟩ := rv2.get (List.getElem?_eq_getElem (l := ys) (i := j) (by omega))
  have f1 : its.toArray[j] = w1 := by
    rw [List.getElem?_eq_getElem h1] at e1
    simpa using Option.some.inj e1
  have f2 : its2.toArray[j] = w2 := by
    rw [List.getElem?_eq_getElem h2] at e2
    simpa using Option.some.inj e2
  rw [f1, f2]
  exact deq_at I n A.in1 (by show A.units + 1 + n < cLine; omega) r1 r2 (he j _ _ (List.getElem?_eq_getElem (by omega)) (List.getElem?_eq_getElem (by omega)))
theorem op_eqL (n : Nat) (hu : X.A.units + (n + 1) < cLine) : OpR X (compareOp .Eq) (rAlike X.K n true) := by
  intro pins s σ H x y v u Q I rx ry h
  obtain ⟨⟨a, b, xs, ys, ex, ey, ha, hb, hl, he⟩, q⟩ := h
  subst ex ey
  cases rx
  cases ry
  obtain ⟨its, rv, pl, hz⟩ := I.list ha
  obtain ⟨its2, rv2, pl2, hz2⟩ := I.list hb
  have l1 := rv.length
  have l2 := rv2.length
  have r := SeqAt.RcAt.lists (A := X.A) (s := s) (e := fun _ => true) pl.isList pl2.isList (by simp only [List.size_toArray]; omega) (by omega) (alike_items I hu rv rv2 hl he)
  rw [all_true] at r
  exact r X.prog X.w X.xe _ ⟨.bl true, H, I, rfl, q⟩
theorem op_neL (n : Nat) (hu : X.A.units + (n + 1) < cLine) : OpR X (compareOp .NotEq) (rAlike X.K n false) := by
  intro pins s σ H x y v u Q I rx ry h
  obtain ⟨⟨a, b, xs, ys, ex, ey, ha, hb, hl, he⟩, q⟩ := h
  subst ex ey
  cases rx
  cases ry
  obtain ⟨its, rv, pl, hz⟩ := I.list ha
  obtain ⟨its2, rv2, pl2, hz2⟩ := I.list hb
  have l1 := rv.length
  have l2 := rv2.length
  have r := SeqAt.RcNeAt.lists (A := X.A) (s := s) (e := fun _ => true) pl.isList pl2.isList (by simp only [List.size_toArray]; omega) (by omega) (alike_items I hu rv rv2 hl he)
  rw [all_true] at r
  exact r X.prog X.w X.xe _ ⟨.bl false, H, I, rfl, q⟩
end
structure Wk (J : It) (xs : List V) (H : Hp) : Prop where
  go : ∀ i H3, Same H H3 → i < xs.length → J.go i H3
  yl : ∀ i H3 x H', Same H H3 → i < xs.length → J.yld i H3 x H' → H' = H3 ∧ xs[i]? = some x
  st : ∀ H3, Same H H3 → J.stop xs.length H3
theorem wk_list {K : PySem.W.Frag} {a : Addr} {xs : List V} {H : Hp} (h : SqL K H a xs) : Wk (Itl K a) xs H where
  go := fun i H3 s hi => ⟨xs, xs[i], s.seq h, List.getElem?_eq_getElem hi⟩
  yl := fun i H3 x H' s hi y => ⟨y.1, y.2 xs (s.seq h)⟩
  st := fun H3 s => ⟨xs, s.seq h, Nat.le_refl _⟩
theorem wk_range {lo : Int} {n : Nat} {H : Hp} : Wk (Itr lo n) ((List.range n).map fun (i : Nat) => V.int (lo + (i : Int))) H where
  go := fun i H3 s hi => by show i < n; simpa using hi
  yl := fun i H3 x H' s hi y => ⟨y.1, by
    have hi' : i < n := by simpa using hi
    rw [y.2, List.getElem?_map, List.getElem?_range hi']
    rfl⟩
  st := fun H3 s => by show n ≤ _; simp
theorem comp_pure {J : It} {xs ys : List V} {σ' : St} {j : Nat} {te : TE} {Q : VK} {H : Hp} (W : Wk J xs H) (hz : xs.length ≤ sizeLine) (hl : ys.length = xs.length)
    (hs : ∀ (i : Nat) x y, xs[i]? = some x → ys[i]? = some y → ∀ Q' : VK, Q' y H → te (σ'.set j (some x)) H Q') (hd : ∀ D, H D = none → Q (.ref D) (upd H D (.lst ys))) : CompW σ' j tYes te Q J H := by
  refine ⟨fun i m zs H3 => m = xs.length - i ∧ i ≤ xs.length ∧ H3 = H ∧ zs = ys.take i, ⟨xs.length, by simp, Nat.zero_le _, rfl, by simp⟩, ?_⟩
  rintro i m zs H3 ⟨rfl, hi, rfl, rfl⟩
  by_cases hlt : i < xs.length
  · refine .inr ⟨W.go i _ (Same.refl _) hlt, by rw [List.length_take]; omega, fun zs' H' => H' = H3 ∧ zs' = ys.take (i + 1), fun zs' H' p => ⟨xs.length - (i + 1), by omega, rfl, hlt, p.1, p.2⟩, fun x H' y => ?_⟩
    obtain ⟨e, ex⟩ := W.yl i _ x H' (Same.refl _) hlt y
    subst e
    unfold tYes
    dsimp only
    rw [if_pos rfl]
    have hy : ys[i]? = some (ys[i]'(by omega)) := List.getElem?_eq_getElem _
    refine hs i x _ ex hy _ ⟨rfl, ?_⟩
    rw [List.take_add_one, hy]
    rfl
  · have e : i = xs.length := by omega
    subst e
    refine .inl ⟨W.st _ (Same.refl _), ?_⟩
    rw [List.take_of_length_le (by omega)]
    exact hd
theorem comp_news {J : It} {xs : List V} {ls : List (List V)} {σ' : St} {j : Nat} {te : TE} {Q : VK} {H : Hp} (W : Wk J xs H) (hz : xs.length ≤ sizeLine) (hl : ls.length = xs.length)
    (hs : ∀ (i : Nat) x l H3, xs[i]? = some x → ls[i]? = some l → Same H H3 → ∀ Q' : VK, (∀ D, H3 D = none → Q' (.ref D) (upd H3 D (.lst l))) → te (σ'.set j (some x)) H3 Q')
    (hd : ∀ (as : List Addr) H', Same H H' → as.length = ls.length → as.Nodup → (∀ b ∈ as, H b = none) → (∀ (i : Nat) a l, as[i]? = some a → ls[i]? = some l → H' a = some (.lst l)) → ∀ D, H' D = none → Q (.ref D) (upd H' D (.lst (as.map V.ref)))) : CompW σ' j tYes te Q J H := by
  refine ⟨fun i m zs H3 => m = xs.length - i ∧ i ≤ xs.length ∧ ∃ as : List Addr, zs = as.map V.ref ∧ as.length = i ∧ Same H H3 ∧ as.Nodup ∧ (∀ b ∈ as, H b = none) ∧ (∀ b ∈ as, ∃ o, H3 b = some o) ∧ ∀ (k : Nat) a l, as[k]? = some a → ls[k]? = some l → H3 a = some (.lst l),
    ⟨xs.length, by simp, Nat.zero_le _, [], rfl, rfl, Same.refl _, List.nodup_nil, (fun _ h => by cases h), (fun _ h => by cases h), fun k a l e => by simp at e⟩, ?_⟩
  rintro i m zs H3 ⟨rfl, hi, as, rfl, hlen, sm, nd, fr, there, hrow⟩
  by_cases hlt : i < xs.length
  · refine .inr ⟨W.go i _ sm hlt, by rw [List.length_map]; omega, _, fun zs' H' p => ⟨xs.length - (i + 1), by omega, rfl, hlt, p⟩, fun x H' y => ?_⟩
    obtain ⟨e, ex⟩ := W.yl i _ x H' sm hlt y
    subst e
    unfold tYes
    dsimp only
    rw [if_pos rfl]
    have hy : ls[i]? = some (ls[i]'(by omega)) := List.getElem?_eq_getElem _
    refine hs i x _ H' ex hy sm _ fun D hD => ?_
    have nD : D ∉ as := fun z => by
      obtain ⟨o, e⟩ := there D z
      rw [hD] at e
      cases e
    refine ⟨as ++ [D], by rw [List.map_append]; rfl, by rw [List.length_append, List.length_singleton]; omega, fun b o e => ?_, ?_, fun b hb => ?_, fun b hb => ?_, fun k a l e1 e2 => ?_⟩
    · have q := sm b o e
      rw [upd_ne (ne_of_none q hD)]
      exact q
    · rw [List.nodup_append]
      refine ⟨nd, by simp, fun x hx y hy => ?_⟩
      rw [List.mem_singleton.mp hy]
      intro z
      exact nD (by rw [← z]; exact hx)
    · rcases List.mem_append.mp hb with z | z
      · exact fr b z
      · rw [List.mem_singleton.mp z]
        exact sm.free hD
    · rcases List.mem_append.mp hb with z | z
      · obtain ⟨o, e⟩ := there b z
        exact ⟨o, by rw [upd_ne (ne_of_none e hD)]; exact e⟩
      · rw [List.mem_singleton.mp z]
        exact ⟨_, upd_same⟩
    · by_cases hk : k < as.length
      · rw [List.getElem?_append_left hk] at e1
        have q := hrow k a l e1 e2
        rw [upd_ne (ne_of_none q hD)]
        exact q
      · rw [List.getElem?_append_right (by omega)] at e1
        cases q : k - as.length with
        | zero =>
          rw [q] at e1
          have ea : D = a := by simpa using e1
          subst ea
          have ek : k = i := by omega
          subst ek
          rw [hy] at e2
          cases e2
          exact upd_same
        | succ n =>
          rw [q] at e1
          simp at e1
  · have e : i = xs.length := by omega
    subst e
    exact .inl ⟨W.st _ sm, hd as H3 sm (by omega) nd fr hrow⟩
section
variable {X : Cx} {K : PySem.W.Frag}
theorem ix_listK (hK : X.K = K) : IxR X (rIxL K) := hK ▸ ix_list
theorem sl_listK (hK : X.K = K) : SlR X (rSlL K) := hK ▸ sl_list
theorem call_lenK (hK : X.K = K) : CallR X (.builtin "len") (fun xs H Q => ∃ p ys, xs = [.ref p] ∧ (SqL K H p ys ∨ SqT K H p ys) ∧ Q (.int ys.length) H) := hK ▸ call_len_seq
theorem call_listK (hK : X.K = K) : CallR X (.type "list") (fun xs H Q => ∃ p ys, xs = [.ref p] ∧ (SqL K H p ys ∨ SqT K H p ys) ∧ ∀ l, H l = none → Q (.ref l) (upd H l (.lst ys))) := hK ▸ call_list_of
theorem call_sumK (hK : X.K = K) (hc : X.calm = true) : CallR X (.builtin "sum") (fun xs H Q => ∃ (p : Addr) (ns : List Int), xs = [.ref p] ∧ SqL K H p (ns.map V.int) ∧ Q (.int ns.sum) H) := hK ▸ call_sum hc
theorem call_allK (hK : X.K = K) (hc : X.calm = true) : CallR X (.builtin "all") (fun xs H Q => ∃ (p : Addr) (bs : List Bool), xs = [.ref p] ∧ SqL K H p (bs.map V.bl) ∧ Q (.bl (bs.all id)) H) := hK ▸ call_all hc
theorem call_anyK (hK : X.K = K) (hc : X.calm = true) : CallR X (.builtin "any") (fun xs H Q => ∃ (p : Addr) (bs : List Bool), xs = [.ref p] ∧ SqL K H p (bs.map V.bl) ∧ Q (.bl (bs.any id)) H) := hK ▸ call_any hc
theorem op_eqLK (n : Nat) (hK : X.K = K) (hu : X.A.units + (n + 1) < cLine) : OpR X (compareOp .Eq) (rAlike K n true) := hK ▸ op_eqL n hu
theorem op_neLK (n : Nat) (hK : X.K = K) (hu : X.A.units + (n + 1) < cLine) : OpR X (compareOp .NotEq) (rAlike K n false) := hK ▸ op_neL n hu
theorem pi_listK {tg l : Expr} {tl : TE} (hK : X.K = K) (hl : PE X l tl) : PI X tg l (iList K tl) := hK ▸ pi_list hl
theorem pe_fldK {e : Expr} {ta : TE} {f : Str} {pos : Pos} (hK : X.K = K) (he : PE X e ta) (hb : attributeBase e f X.env (eval e X.env) = eval e X.env) : PE X (.Attribute e f pos) (tFld K ta f) := hK ▸ pe_fld he hb
theorem ps_fldK {o value : Expr} {f : Str} {pos pos' : Pos} {ta tv : TE} (hK : X.K = K) (ha : PE X o ta) (hv : PE X value tv) (hs : swapsWith value (some (.Attribute o f pos')) pos.line X.env = pure false) : PS X (.Assign [.Attribute o f pos'] value pos) (sFld K ta tv f) := hK ▸ ps_fld ha hv hs
end
end L2
set_option Elab.async false
set_option linter.all false
set_option maxRecDepth 100000
set_option maxHeartbeats 4000000
namespace L2
open PySem PySem.Spec PyProof.Rows
def TrC (h base : Heap) (e : Addr) (cls : Value) (c : Option Addr) (fl : Value) : Prop :=
  ∃ oe vs T oT ts, h.get? e = some oe ∧ (oe.cls = cls ∧ (c = none → vs[2]? = some .none)) ∧ oe.data = .fields vs ∧ vs[1]? = some (.ref T) ∧ base.get? T = none ∧ T ≠ e ∧ h.get? T = some oT ∧ oT.data = .fields ts ∧ ts[3]? = some fl
def FlyC (base : Heap) (l : List Env) (e : Addr) (cls : Value) (c : Option Addr) (h : Heap) : Prop := base.StaysIn h ∧ base.get? e = none ∧ h.FunFrames base l ∧ TrC h base e cls c .none
def HldC (base : Heap) (l : List Env) (e : Addr) (cls : Value) (c : Option Addr) (L : Addr) (h : Heap) : Prop := base.StaysIn h ∧ base.get? e = none ∧ h.FunFrames base l ∧ TrC h base e cls c (rawInt L)
theorem FlyC.there {base h : Heap} {l : List Env} {e : Addr} {cls : Value} {c : Option Addr} (x : FlyC base l e cls c h) : ∃ ob, h.get? e = some ob ∧ ob.cls = cls :=
  let ⟨_, _, _, oe, _, _, _, _, he, hc, _⟩ := x
  ⟨oe, he, hc.1⟩
section
variable {M : Model} {A : Around} {E : Value → Shared → Prop} {s : Shared} {base : Heap} {env : Env} {outer l : List Env} {L e : Addr} {cls : Value} {c : Option Addr} {Q : Unit → Shared → Prop}
theorem entryC {oe : Obj} {vs : Array Value} {head : Value} {hadNext : Bool} (hfr : A.frames = some (env :: outer)) (hl : s.heap.FunFrames base (env :: outer)) (hf : env.frame = some L) (he : s.heap.get? e = some oe) (hkb : base.StaysIn s.heap) (hen : base.get? e = none)
    (hd : oe.data = .fields vs) (hsz : 1 < vs.size) (h2 : c = none → vs[2]? = some .none)
    (h : ∀ h', HldC base (env :: outer) e oe.cls c L h' → s.heap.UpToSlots h' → Q () { s with heap := h' }) :
    wpAny M A (do let a ← frameOf env; let pl ← entryPlaceOf L hadNext; let b ← EntryCells.newEntry head a .none (rawInt L) .none pl; setField (.ref e) 1 b) Q E s := by
  have out : e ∉ (env :: outer).filterMap (·.frame) := fun hm => by
    obtain ⟨_, o, ho, hnf⟩ := hl.mem hm
    obtain rfl : oe = o := Option.some.inj (he.symm.trans ho)
    exact hnf vs hd
  refine wpAny_bind (wpAny_frameOf_fun hfr hl hf fun h1 hs1 => wpAny_bind (wpAny_entryPlaceOf fun pl hpl => ?_))
  unfold EntryCells.newEntry newFields
  refine wpAny_bind (wpAny_newObj_type ?_ (hpl.sizeOk5 _ _ _ _ _))
  have e1 : h1.get? e = some oe := (hs1.2.1 e out).trans he
  have b1 : base.StaysIn h1 := fun b o q => (hs1.2.1 b fun hm => by have z := (hl.mem hm).1; rw [q] at z; cases z).trans (hkb b o q)
  generalize hob : ({ cls := .type "traceback", dict := none, data := .fields ([head, .ref L, .none, rawInt L, .none] ++ (if pl.isEmpty then List.replicate 6 Value.none else pl)).toArray } : Obj) = ob
  have obd : ob.data = .fields ([head, .ref L, .none, rawInt L, .none] ++ (if pl.isEmpty then List.replicate 6 Value.none else pl)).toArray := by rw [← hob]
  have e2 : (h1.push ob).get? e = some oe := Heap.get?_push_of_some ob e1
  have ne : h1.objs.size ≠ e := Nat.ne_of_gt (Heap.lt_size e1)
  have keep : ∀ b o, b ≠ e → h1.get? b = some o → ((h1.push ob).update e (Obj.mapFields (·.setIfInBounds 1 (Value.ref h1.objs.size)))).get? b = some o := fun b o n q => by
    rw [Heap.get?_update_other _ _ (Ne.symm n)]; exact Heap.get?_push_of_some ob q
  have apart : ∀ b o, s.heap.get? b = some o → (∀ ws, o.data ≠ .fields ws) → b ≠ e := fun b o q n z => by
    subst z; obtain rfl : oe = o := Option.some.inj (he.symm.trans q); exact n vs hd
  refine wpAny_setField e2 hd hsz (h _ ?_ ?_)
  · have d3 := Obj.data_mapFields hd (·.setIfInBounds 1 (Value.ref h1.objs.size))
    have e3 := Heap.get?_update_self (Obj.mapFields (·.setIfInBounds 1 (Value.ref h1.objs.size))) e2 (Obj.isFreed_of_fields d3)
    have t3 : ((h1.push ob).update e (Obj.mapFields (·.setIfInBounds 1 (Value.ref h1.objs.size)))).get? h1.objs.size = some ob := by
      rw [Heap.get?_update_other _ _ (Ne.symm ne)]; exact Heap.get?_push_size h1 (by rw [← hob]; rfl)
    refine ⟨fun b o q => keep b o (fun z => by rw [z, hen] at q; cases q) (b1 b o q), hen, hl.of_keeps fun b o q n => ?_, _, _, h1.objs.size, ob, _, e3, ⟨Obj.cls_mapFields _ _, fun z => ?_⟩, d3, by simp [hsz], b1.fresh, ne, t3, obd, ?_⟩
    · obtain ⟨sl, z⟩ := hs1.2.2 b o q
      exact ⟨_, keep b _ (apart b o q n) z, rfl⟩
    · rw [Array.getElem?_setIfInBounds_ne (by decide)]; exact h2 z
    · first | (simp; done) | (rcases hpl with rfl | ⟨_, _, _, _, _, _, _, rfl⟩ <;> simp)
  · intro b o q n
    obtain ⟨sl, z⟩ := hs1.2.2 b o q
    exact ⟨sl, keep b _ (apart b o q n) z⟩
theorem noteNew {oe : Obj} {vs : Array Value} (hfr : A.frames = some (env :: outer)) (hl : s.heap.FunFrames base (env :: outer)) (hf : env.frame = some L) (he : s.heap.get? e = some oe) (hkb : base.StaysIn s.heap) (hen : base.get? e = none)
    (hd : oe.data = .fields vs) (h1 : vs[1]? = some .none) (h2 : c = none → vs[2]? = some .none) (h : ∀ h', HldC base (env :: outer) e oe.cls c L h' → s.heap.UpToSlots h' → Q () { s with heap := h' }) : wpAny M A (noteFrame (.ref e) env) Q E s := by
  unfold noteFrame
  simp only [hf]
  refine wpAny_bind (wpAny_field he hd h1 ?_)
  rw [if_neg (by decide)]
  exact entryC hfr hl hf he hkb hen hd (Array.getElem?_eq_some_iff.mp h1).1 h2 h
theorem noteOn (hfr : A.frames = some (env :: outer)) (hf : env.frame = some L) (F : FlyC base (env :: outer) e cls c s.heap) (h : ∀ h', HldC base (env :: outer) e cls c L h' → s.heap.UpToSlots h' → Q () { s with heap := h' }) : wpAny M A (noteFrame (.ref e) env) Q E s := by
  obtain ⟨hkb, hen, hl, oe, vs, T, oT, ts, he, ⟨hc, h2⟩, hd, h1, nT, nTe, hT, dT, h3⟩ := F
  subst hc
  unfold noteFrame
  simp only [hf]
  refine wpAny_bind (wpAny_field he hd h1 ?_)
  rw [if_pos (show (Value.ref T != Value.none) = true by simp)]
  refine wpAny_bind (wpAny_field hT dT h3 ?_)
  rw [if_neg (show ¬ ((Value.none == rawInt L) = true) by simp [rawInt])]
  refine wpAny_bind (wpAny_setField hT dT (Array.getElem?_eq_some_iff.mp h3).1 ?_)
  have oth : ∀ b, b ≠ T → (s.heap.update T (Obj.mapFields (·.setIfInBounds 3 Value.none))).get? b = s.heap.get? b := fun b n => Heap.get?_update_other _ _ (Ne.symm n)
  have apart : ∀ b o, s.heap.get? b = some o → (∀ ws, o.data ≠ .fields ws) → b ≠ T := fun b o q n z => by
    subst z; obtain rfl : oT = o := Option.some.inj (hT.symm.trans q); exact n ts dT
  refine entryC (c := c) hfr (hl.of_keeps fun b o q n => ⟨o, (oth b (apart b o q n)).trans q, rfl⟩) hf ((oth e (Ne.symm nTe)).trans he) (fun b o q => (oth b fun z => ?_).trans (hkb b o q)) hen hd (Array.getElem?_eq_some_iff.mp h1).1 h2 fun h' x up => h h' x fun b o q n => up b o ((oth b (apart b o q n)).trans q) n
  rw [z, nT] at q; cases q
theorem landAt {fl : Value} (hkb : base.StaysIn s.heap) (hen : base.get? e = none) (hl : s.heap.FunFrames base l) (F : TrC s.heap base e cls c fl) (h : ∀ h', FlyC base l e cls c h' → s.heap.UpToSlots h' → Q () { s with heap := h' }) : wpAny M A (setFlight (.ref e) none) Q E s := by
  obtain ⟨oe, vs, T, oT, ts, he, hc, hd, h1, nT, nTe, hT, dT, h3⟩ := F
  have sz := (Array.getElem?_eq_some_iff.mp h3).1
  have oth : ∀ b, b ≠ T → (s.heap.update T (Obj.mapFields (·.setIfInBounds 3 ((none : Option Addr).elim Value.none fun f => rawInt f)))).get? b = s.heap.get? b := fun b n => Heap.get?_update_other _ _ (Ne.symm n)
  have apart : ∀ b o, s.heap.get? b = some o → (∀ ws, o.data ≠ .fields ws) → b ≠ T := fun b o q n z => by
    subst z; obtain rfl : oT = o := Option.some.inj (hT.symm.trans q); exact n ts dT
  unfold setFlight
  refine wpAny_bind (wpAny_field he hd h1 ?_)
  rw [if_pos (show (Value.ref T != Value.none) = true by simp)]
  refine wpAny_setField hT dT sz (h _ ⟨fun b o q => (oth b fun z => ?_).trans (hkb b o q), hen, hl.of_keeps fun b o q n => ⟨o, (oth b (apart b o q n)).trans q, rfl⟩, ?_⟩ fun b o q n => ⟨o.slots, (oth b (apart b o q n)).trans q⟩)
  · rw [z, nT] at q; cases q
  · exact ⟨oe, vs, T, _, _, (oth e (Ne.symm nTe)).trans he, hc, hd, h1, nT, nTe, Heap.get?_update_self _ hT (Obj.isFreed_of_fields (Obj.data_mapFields dT _)), Obj.data_mapFields dT _, by simp [sz]⟩
theorem flightAt {fl : Value} (hkb : base.StaysIn s.heap) (hen : base.get? e = none) (hl : s.heap.FunFrames base l) (F : TrC s.heap base e cls c fl) (h : ∀ h', HldC base l e cls c L h' → s.heap.UpToSlots h' → Q () { s with heap := h' }) : wpAny M A (setFlight (.ref e) (some L)) Q E s := by
  obtain ⟨oe, vs, T, oT, ts, he, hc, hd, h1, nT, nTe, hT, dT, h3⟩ := F
  have sz := (Array.getElem?_eq_some_iff.mp h3).1
  have oth : ∀ b, b ≠ T → (s.heap.update T (Obj.mapFields (·.setIfInBounds 3 ((some L : Option Addr).elim Value.none fun f => rawInt f)))).get? b = s.heap.get? b := fun b n => Heap.get?_update_other _ _ (Ne.symm n)
  have apart : ∀ b o, s.heap.get? b = some o → (∀ ws, o.data ≠ .fields ws) → b ≠ T := fun b o q n z => by
    subst z; obtain rfl : oT = o := Option.some.inj (hT.symm.trans q); exact n ts dT
  unfold setFlight
  refine wpAny_bind (wpAny_field he hd h1 ?_)
  rw [if_pos (show (Value.ref T != Value.none) = true by simp)]
  refine wpAny_setField hT dT sz (h _ ⟨fun b o q => (oth b fun z => ?_).trans (hkb b o q), hen, hl.of_keeps fun b o q n => ⟨o, (oth b (apart b o q n)).trans q, rfl⟩, ?_⟩ fun b o q n => ⟨o.slots, (oth b (apart b o q n)).trans q⟩)
  · rw [z, nT] at q; cases q
  · exact ⟨oe, vs, T, _, _, (oth e (Ne.symm nTe)).trans he, hc, hd, h1, nT, nTe, Heap.get?_update_self _ hT (Obj.isFreed_of_fields (Obj.data_mapFields dT _)), Obj.data_mapFields dT _, by simp [sz]⟩
theorem noteAgain (hf : env.frame = some L) (F : TrC s.heap base e cls c (rawInt L)) (h : Q () s) : wpAny M A (noteFrame (.ref e) env) Q E s := by
  obtain ⟨oe, vs, T, oT, ts, he, hc, hd, h1, nT, nTe, hT, dT, h3⟩ := F
  unfold noteFrame
  simp only [hf]
  refine wpAny_bind (wpAny_field he hd h1 ?_)
  rw [if_pos (show (Value.ref T != Value.none) = true by simp)]
  refine wpAny_bind (wpAny_field hT dT h3 ?_)
  rw [if_pos (show (rawInt L == rawInt L) = true by simp)]
  exact wpAny_pure h
theorem FlyC.out {base : Heap} {h : Heap} (F : FlyC base (env :: outer) e cls c h) : FlyC base outer e cls c h := ⟨F.1, F.2.1, F.2.2.1.2.2, F.2.2.2⟩
theorem leaveOn (hfr : A.frames = some (env :: outer)) (hf : env.frame = some L) (F : FlyC base (env :: outer) e cls c s.heap) (h : ∀ h', FlyC base outer e cls c h' → s.heap.UpToSlots h' → Q () { s with heap := h' }) : wpAny M A (leaving env (.ref e)) Q E s := by
  unfold leaving
  refine wpAny_bind (noteOn hfr hf F fun h1 x up => ?_)
  exact landAt (s := { s with heap := h1 }) x.1 x.2.1 x.2.2.1 x.2.2.2 fun h2 y up2 => h h2 y.out (up.trans up2)
theorem leaveNew {oe : Obj} {vs : Array Value} (hfr : A.frames = some (env :: outer)) (hl : s.heap.FunFrames base (env :: outer)) (hf : env.frame = some L) (he : s.heap.get? e = some oe) (hkb : base.StaysIn s.heap) (hen : base.get? e = none)
    (hd : oe.data = .fields vs) (h1 : vs[1]? = some .none) (h2 : c = none → vs[2]? = some .none) (h : ∀ h', FlyC base outer e oe.cls c h' → s.heap.UpToSlots h' → Q () { s with heap := h' }) : wpAny M A (leaving env (.ref e)) Q E s := by
  unfold leaving
  refine wpAny_bind (noteNew hfr hl hf he hkb hen hd h1 h2 fun h1 x up => ?_)
  exact landAt (s := { s with heap := h1 }) x.1 x.2.1 x.2.2.1 x.2.2.2 fun h2 y up2 => h h2 y.out (up.trans up2)
theorem leaveHeld (hf : env.frame = some L) (F : HldC base (env :: outer) e cls c L s.heap) (h : ∀ h', FlyC base outer e cls c h' → s.heap.UpToSlots h' → Q () { s with heap := h' }) : wpAny M A (leaving env (.ref e)) Q E s := by
  unfold leaving
  refine wpAny_bind (noteAgain hf F.2.2.2 ?_)
  exact landAt F.1 F.2.1 F.2.2.1 F.2.2.2 fun h2 y up2 => h h2 y.out up2
end
end L2
set_option Elab.async false
set_option linter.all false
set_option maxRecDepth 100000
set_option maxHeartbeats 4000000
namespace L2
open PySem PySem.Spec PyProof.Rows
structure XB (P : Program) (w : World) (outer : List Env) (H : Hp) (s : Shared) (B : Heap) (H' : Hp) : Prop where
  hok : HOk P w H' B
  keep : ∀ b o, s.heap.get? b = some o → H b = none → b ∉ frs outer → B.get? b = some o
  free : ∀ b o, s.heap.get? b = some o → H b = none → H' b = none
  there : ∀ b o, s.heap.get? b = some o → b ∉ frs outer → ∃ o', B.get? b = some o'
  tups : ∀ b xs, H b = some (.tup xs) → H' b = some (.tup xs)
  frzs : ∀ b o u, H b = some (.frz o u) → H' b = some (.frz o u)
  tbls : ∀ b ps, H b = some (.tbl ps) → ∃ more, H' b = some (.tbl (ps ++ more))
def SlotsUp (outer : List Env) (H : Hp) (h h' : Heap) : Prop := ∀ b o, h.get? b = some o → H b = none → b ∈ frs outer → ∃ sl, h'.get? b = some { o with slots := sl }
theorem XB.un {P : Program} {w : World} {outer : List Env} {H H' : Hp} {s : Shared} {B h : Heap} (x : XB P w outer H s B H') (hB : B.StaysIn h) (hs : SlotsUp outer H s.heap h) (hf : ∀ b ∈ frs outer, H b = none) : Un (frs outer) [] H H' s.heap h where
  keep := fun b o e n hb _ => hB b o (x.keep b o e n hb)
  slot := fun b o e n hb _ => hs b o e n hb
  free := fun b o e n _ => x.free b o e n
  there := fun b o e _ => by
    by_cases hb : b ∈ frs outer
    · obtain ⟨sl, q⟩ := hs b o e (hf b hb) hb
      exact ⟨_, q⟩
    · obtain ⟨o', q⟩ := x.there b o e hb
      exact ⟨o', hB b o' q⟩
  tups := x.tups
  frzs := x.frzs
  tbls := x.tbls
def CX1 (P : Program) (w : World) : CXT := fun outer H s E ev s' => ∃ (e : Addr) (cls : Value) (c : Option Addr) (B : Heap) (H' : Hp), ev = .ref e ∧ s'.os = s.os ∧ AllBare s'.gens ∧ XB P w outer H s B H' ∧ SlotsUp outer H s.heap s'.heap ∧ FlyC B outer e cls c s'.heap ∧ E cls c H'
theorem passE0 {P : Program} {w : World} {X : Cx} : Passes (CX1 P w) X E0 := fun _ _ _ _ _ _ _ ⟨_, _, _, _, _, _, _, _, _, _, _, h⟩ => h.elim
section
variable {P : Program} {w : World} {K : PySem.W.Frag} {mg : Str → Option Value} {base : Heap} {N : List Str} {qual : Str} {scope : Scope} {f : Addr} {cd : Value} {A : Around} {outer : List Env} {s₀ : Shared} {H₀ : Hp} {E : XK}
theorem passX : Passes (CX1 P w) (cxOf (CX1 P w) P w K mg base N qual scope f cd A outer s₀ H₀ E) E := by
  intro pins σ H s ev s' I h
  obtain ⟨e, cls, a0, B, H', rfl, os, bare, xb, sl, fl, q⟩ := h
  have ne : ∀ b o, s₀.heap.get? b = some o → b ≠ s₀.heap.objs.size := fun b o e => Nat.ne_of_lt (Heap.lt_size e)
  have nf : ∀ b, b ∉ frs outer → b ≠ s₀.heap.objs.size → b ∉ frs (envOfC qual scope s₀.heap.objs.size f cd :: outer) := fun b h1 h2 z => by
    rcases List.mem_cons.mp (I.stkSub b z) with y | y
    · exact h2 y
    · exact h1 y
  refine leaveOn I.ok.frames rfl fl fun h'' fl' up => ?_
  refine ⟨e, cls, a0, B, H', rfl, os.trans I.os, bare, ⟨xb.hok, fun b o q n hb => ?_, fun b o q n => ?_, fun b o q hb => ?_, fun b xs q => xb.tups b xs (I.base.tups b xs q), fun b o u q => xb.frzs b o u (I.base.frzs b o u q), fun b ps q => ?_⟩, fun b o q n hb => ?_, fl', q⟩
  · exact xb.keep b o (I.base.keep b o q n hb (by intro z; cases z)) (I.base.free b o q n (by intro z; cases z)) (nf b hb (ne b o q))
  · obtain ⟨o', q'⟩ := I.base.there b o q (by intro z; cases z)
    exact xb.free b o' q' (I.base.free b o q n (by intro z; cases z))
  · obtain ⟨o', q'⟩ := I.base.there b o q (by intro z; cases z)
    exact xb.there b o' q' (nf b hb (ne b o q))
  · obtain ⟨m1, q1⟩ := I.base.tbls b ps q
    obtain ⟨m2, q2⟩ := xb.tbls b _ q1
    exact ⟨m1 ++ m2, by rw [q2, Array.append_assoc]⟩
  · obtain ⟨s1, q1⟩ := I.base.slot b o q n hb (by intro z; cases z)
    obtain ⟨s2, q2⟩ := sl b _ q1 (I.base.free b o q n (by intro z; cases z)) (by
      show b ∈ frs (envOfC qual scope s₀.heap.objs.size f cd :: outer)
      exact List.mem_cons_of_mem _ hb)
    obtain ⟨_, o2, ho2, hd2⟩ := I.ok.funs.mem hb
    change s₀.heap.get? b = some o2 at ho2
    rw [q] at ho2
    cases ho2
    obtain ⟨s3, q3⟩ := up b _ q2 hd2
    exact ⟨s3, q3⟩
theorem raisesX {pins : List (Addr × Obj)} {σ : St} {H : Hp} {s : Shared} {h' : Heap} {e : Addr} {cls : Value} {vs : List Value} (I : Inv (cxOf (CX1 P w) P w K mg base N qual scope f cd A outer s₀ H₀ E) pins σ H s)
    (hx : Heap.MadeExcOf s.heap h' e cls vs) (q : E cls none H) : (cxOf (CX1 P w) P w K mg base N qual scope f cd A outer s₀ H₀ E).xe (.ref e) { s with heap := h' } := by
  have ne : ∀ b o, s₀.heap.get? b = some o → b ≠ s₀.heap.objs.size := fun b o e => Nat.ne_of_lt (Heap.lt_size e)
  have nf : ∀ b, b ∉ frs outer → b ≠ s₀.heap.objs.size → b ∉ frs (envOfC qual scope s₀.heap.objs.size f cd :: outer) := fun b h1 h2 z => by
    rcases List.mem_cons.mp (I.stkSub b z) with y | y
    · exact h2 y
    · exact h1 y
  have tk : ∀ b o, H b = some o → b ∉ frs (envOfC qual scope s₀.heap.objs.size f cd :: outer) := fun b o e z => by
    rw [I.stkFree b z] at e
    cases e
  have hin : ∀ env ∈ (envOfC qual scope s₀.heap.objs.size f cd :: outer), ∀ b, env.frame = some b → b ∈ frs (envOfC qual scope s₀.heap.objs.size f cd :: outer) := fun env he b hb => List.mem_filterMap.mpr ⟨env, he, hb⟩
  show wpAny (model P w) (A.deeper (envOfC qual scope s₀.heap.objs.size f cd)) (leaving (envOfC qual scope s₀.heap.objs.size f cd) (.ref e)) (fun _ s'' => CX1 P w outer H₀ s₀ E (.ref e) s'') (fun e' s'' => CX1 P w outer H₀ s₀ E e' s'') { s with heap := h' }
  obtain ⟨tp, hee, htn, htt⟩ := hx.there
  have hst := PySem.W.funFrames_hide I.stack hin
  have hk : (PySem.W.hideAll s.heap (frs (envOfC qual scope s₀.heap.objs.size f cd :: outer))).StaysIn s.heap := fun b o z => PySem.W.of_hideAll _ z
  have hnew : (PySem.W.hideAll s.heap (frs (envOfC qual scope s₀.heap.objs.size f cd :: outer))).get? e = none := by
    cases z : (PySem.W.hideAll s.heap (frs (envOfC qual scope s₀.heap.objs.size f cd :: outer))).get? e with
    | none => rfl
    | some o' => have y := hk e o' z; rw [hx.new] at y; cases y
  refine leaveNew (s := { s with heap := h' }) (c := none) I.ok.frames (hst.of_keeps fun b o z _ => ⟨o, hx.keeps b o z, rfl⟩) rfl hee (fun b o z => hx.keeps b o (hk b o z)) hnew rfl rfl (fun _ => rfl) fun h'' fl up => ?_
  have Bget : ∀ b o, s.heap.get? b = some o → b ∉ frs (envOfC qual scope s₀.heap.objs.size f cd :: outer) → (PySem.W.hideAll s.heap (frs (envOfC qual scope s₀.heap.objs.size f cd :: outer))).get? b = some o := fun b o z hb => PySem.W.hideAll_get _ z hb
  refine ⟨e, cls, none, _, H, rfl, I.os, I.bare, ⟨fun a o z => ?_, fun b o z n hb => ?_, fun b o z n => I.base.free b o z n (by intro y; cases y), fun b o z hb => ?_, I.base.tups, I.base.frzs, I.base.tbls⟩, fun b o z n hb => ?_, fl, q⟩
  · refine (I.hok a o z).stay (fun c v hc y => Bget c v y ?_) (fun _ y => y) fun _ _ y => y
    rcases hc with y' | y'
    · rw [y']; exact tk a o z
    · exact tk c _ y'
  · exact Bget b o (I.base.keep b o z n hb (by intro y; cases y)) (nf b hb (ne b o z))
  · obtain ⟨o', z'⟩ := I.base.there b o z (by intro y; cases y)
    exact ⟨o', Bget b o' z' (nf b hb (ne b o z))⟩
  · obtain ⟨s1, q1⟩ := I.base.slot b o z n hb (by intro y; cases y)
    obtain ⟨_, o2, ho2, hd2⟩ := I.ok.funs.mem hb
    change s₀.heap.get? b = some o2 at ho2
    rw [z] at ho2
    cases ho2
    obtain ⟨s3, q3⟩ := up b _ (hx.keeps b _ q1) hd2
    exact ⟨s3, q3⟩
end
theorem own_obj {K : PySem.W.Frag} {h : Heap} {C : Addr} {bmB : List Value} {newId : String} (X : K.In h) (q : PySem.W.excIn K C bmB newId = true) :
    ∃ bm N nm qn bs hdct sn sub ab col dd k0 k1 k2 k3 k5 mN, h.get? C = some (excClassObj nm qn C N bs bm hdct sn sub ab col dd k0 k1 k2 k3 k5 newId) ∧ h.Ns N mN ∧ mN "__init__" = none ∧ OwnTail h bmB bm := by
  unfold PySem.W.excIn at q
  split at q
  · rename_i dd cd sl ho
    split at q
    · rename_i C' bm k0 k1 k2 k3 n k5 hm hs
      simp only [Bool.and_eq_true, beq_iff_eq, Bool.not_eq_true'] at q
      obtain ⟨⟨⟨⟨⟨e1, e2⟩, hdel⟩, ht⟩, hok⟩, hni⟩ := q
      subst e1 e2
      obtain ⟨nm, bs, mro, ns, qn, hd, sn, sub, ab, col, del⟩ := cd
      dsimp only at hm hdel hok hni
      subst hm hdel
      have es : sl = #[k0, k1, k2, k3, some (.builtin n), k5] := by
        obtain ⟨l⟩ := sl
        simp only at hs
        rw [hs]
      subst es
      exact ⟨bm, ns, nm, qn, bs, hd, sn, sub, ab, col, dd, k0, k1, k2, k3, k5, _, X _ _ ho, .of_isNs (PySem.W.isNs_of_in X hok), PySem.W.nsMap_none_of_in X hok hni, PySem.W.tail_of_in X ht⟩
    · cases q
  · cases q
abbrev vErr : List Value := [.type "ValueError", .type "Exception", .type "BaseException", .type "object"]
structure XCls (K : PySem.W.Frag) (C : Addr) : Prop where
  ex : PySem.W.excIn K C vErr "ValueError.__new__" = true
def Raises (X : Cx) (E : XK) : Prop := ∀ (pins : List (Addr × Obj)) (σ : St) (H : Hp) (s : Shared) (h' : Heap) (e : Addr) (cls : Value) (vs : List Value), Inv X pins σ H s → Heap.MadeExcOf s.heap h' e cls vs → E cls none H → X.xe (.ref e) { s with heap := h' }
def tRaise (C : Addr) (E : XK) (t : TA) : TS := fun _ σ H => t σ H fun vs H1 => vs.length ≤ sizeLine ∧ E (.ref C) none H1
theorem ps_raise {X : Cx} {E : XK} {x : Str} {C : Addr} {e₀ : Expr} {rest : List Expr} {t : TA} {np cpos pos : Pos} (hR : Raises X E) (hc : X.calm = true) (hg : Gl X x) (hm : X.mg x = some (.ref C)) (hC : XCls X.K C) (ha : PA X (e₀ :: rest) t)
    (hd : (x == ("__debug__" : Str)) = false := by decide) (he : starEach (e₀ :: rest) X.env = (false, eval e₀ X.env) :: starEach rest X.env := by rfl) (hpl : (backTo cpos (starEach rest X.env)).any (·.1) = false := by rfl) :
    PS X (.Raise (some (.Call (.Name x np) (e₀ :: rest) [] cpos)) none pos) (tRaise C E t) := by
  intro pins s σ H D I h
  obtain ⟨tl, N, nm, q, bs, hdct, sn, sub, ab, col, dd, k0, k1, k2, k3, k5, mN, hCo, hN, hni, T⟩ := own_obj I.mod.kin hC.ex
  refine wpAny_Raise_call_subT (C := C) (nm := nm) (q := q) (N := N) (bs := bs) (bm := tl) (hdct := hdct) (sn := sn) (sub := sub) (ab := ab) (col := col) (dd := dd) (k0 := k0) (k1 := k1) (k2 := k2) (k3 := k3) (k5 := k5)
    PySem.F.excBase_ValueError (mN := mN) (T.hasType PySem.F.excBase_ValueError.hasBase) (I.ok.hd hc) (by rw [he]; show (false || (backTo cpos (starEach rest X.env)).any (·.1)) = false; rw [hpl]; rfl) hni (ld_glob I hg hm ⟨rfl, ?_⟩ hd)
  have hA := ha cpos pins s σ H _ I h
  rw [he] at hA ⊢
  refine Calls.evalArgs_plain (thn hA fun us s2 ⟨vs, H1, I1, rv, hz, q⟩ => ?_)
  exact ⟨rfl, by rw [← rv.length]; exact hz, I1.bk _ _ hCo, hN.keeps I1.bk, T.keeps I1.bk, fun h' e hx => hR pins σ H1 s2 h' e _ _ I1 hx q⟩
def PJ (X : Cx) (parts : List Expr) (c : St → Hp → Prop) : Prop :=
  ∀ (pins : List (Addr × Obj)) (s : Shared) (σ : St) (H : Hp) (acc : Str) (Q : Str → Shared → Prop), Inv X pins σ H s → c σ H → acc.length + 20000 * parts.length ≤ 1000000 → (∀ x s', x.length ≤ 1000000 → Inv X pins σ H s' → Q x s') → Joins (model X.prog X.w) X.A X.xe (evalEach parts X.env) acc Q s
section
variable {X : Cx}
theorem pj_nil : PJ X [] (fun _ _ => True) := fun _ _ _ _ acc _ I _ hz h => h acc _ (by simp at hz; omega) I
theorem pj_str {x : Str} {j : Nat} {pos : Pos} {es : List Expr} {c : St → Hp → Prop} (hx : x.length ≤ 20000) (hr : PJ X es c) : PJ X (.Constant (.str x) j pos :: es) c := by
  intro pins s σ H acc Q I hc hz h
  simp only [List.length_cons] at hz
  show wpAny _ _ (eval (.Constant (.str x) j pos) X.env) _ _ s
  refine Calls.Constant_str ⟨x, _, rfl, ?_, hr pins _ σ H _ Q (I.tok _) hc ?_ h⟩
  · rw [strLen_append]
    have := sizeLine_eq
    omega
  · rw [strLen_append]
    omega
theorem pj_int {e : Expr} {pos : Pos} {es : List Expr} {te : TE} {c : St → Hp → Prop} (he : PE X e te) (hr : PJ X es c) : PJ X (.FormattedValue e (-1) none pos :: es) (fun σ H => te σ H fun v H1 => ∃ i : Int, v = .int i ∧ i.natAbs.log2 < 1920 ∧ H1 = H ∧ c σ H) := by
  intro pins s σ H acc Q I hc hz h
  simp only [List.length_cons] at hz
  show wpAny _ _ (eval (.FormattedValue e (-1) none pos) X.env) _ _ s
  refine wpAny_FormattedValue_plain (thn (he pins s σ H _ I hc) fun v s1 ⟨x, H1, I1, r1, i, ex, hl, eH, q⟩ => ?_)
  subst ex eH
  obtain ⟨t, rfl⟩ := r1
  have hlen : (Str.ofString (toString i)).length ≤ 20000 := by
    have e := int_text_length_le (k := 1920) (by decide) hl
    rw [PySem.ofString_length]
    omega
  refine wpAny_formatField_int hl ⟨_, _, rfl, ?_, hr pins _ σ H1 _ Q ((I1.tok _).tok _) q ?_ h⟩
  · rw [strLen_append]
    have := sizeLine_eq
    omega
  · rw [strLen_append]
    omega
def tFs (c : St → Hp → Prop) : TE := fun σ H Q => c σ H ∧ ∀ x : Str, Q (.str x) H
theorem pe_fs {v₁ v₂ : Expr} {rest : List Expr} {pos : Pos} {c : St → Hp → Prop} (h : PJ X (v₁ :: v₂ :: rest) c) (hn : (v₁ :: v₂ :: rest).length ≤ 40) : PE X (.JoinedStr (v₁ :: v₂ :: rest) pos) (tFs c) := by
  intro pins s σ H Q I ⟨hc, q⟩
  refine wpAny_JoinedStr (h pins s σ H _ _ I hc ?_ fun x s' hx I' => ⟨?_, .str x, H, I'.tok _, ⟨_, rfl⟩, q x⟩)
  · show 0 + _ ≤ _
    omega
  · have := sizeLine_eq
    omega
end
def Fl (X : Cx) (pins : List (Addr × Obj)) (σ : St) (e : Addr) (cls : Value) (c : Option Addr) (H : Hp) (s : Shared) : Prop :=
  ∃ (s0 : Shared) (H0 : Hp) (B : Heap), Inv X pins σ H0 s0 ∧ s.os = s0.os ∧ AllBare s.gens ∧ XB X.prog X.w X.stack H0 s0 B H ∧ SlotsUp X.stack H0 s0.heap s.heap ∧ FlyC B X.stack e cls c s.heap
section
variable {X : Cx} {pins : List (Addr × Obj)} {σ : St} {H : Hp} {s : Shared} {e : Addr} {cls : Value} {c : Option Addr}
theorem Fl.inv (F : Fl X pins σ e cls c H s) : Inv X pins σ H s := by
  obtain ⟨s0, H0, B, I, os, bare, xb, sl, fl⟩ := F
  exact I.call' (ch := []) os (xb.un fl.1 sl I.stkFree) (xb.hok.kept fl.1) bare fun b z => by cases z
theorem Fl.there (F : Fl X pins σ e cls c H s) : ∃ o, s.heap.get? e = some o ∧ o.cls = cls := by
  obtain ⟨s0, H0, B, I, os, bare, xb, sl, fl⟩ := F
  exact fl.there
theorem SlotsUp.trans {outer : List Env} {H : Hp} {h h1 h2 b : Heap} (x : SlotsUp outer H h h1) (hf : h.FunFrames b outer) (up : h1.UpToSlots h2) : SlotsUp outer H h h2 := fun c o q n hc => by
  obtain ⟨s1, q1⟩ := x c o q n hc
  obtain ⟨_, o2, ho2, hd2⟩ := hf.mem hc
  rw [q] at ho2
  cases ho2
  obtain ⟨s2, q2⟩ := up c _ q1 hd2
  exact ⟨s2, q2⟩
theorem Fl.land {M : Model} {A : Around} {E : Value → Shared → Prop} {Q : Shared → Prop} (F : Fl X pins σ e cls c H s) (hA : A.frames = some X.stack) (hst : X.stack = X.env :: X.outer) (hfr : X.env.frame = some X.env.locals) (h : ∀ s', Fl X pins σ e cls c H s' → Q s') :
    wpAny M A (noteFrame (.ref e) X.env) (fun _ s2 => wpAny M A (setFlight (.ref e) none) (fun _ s3 => Q s3) E s2) E s := by
  obtain ⟨s0, H0, B, I, os, bare, xb, sl, fl⟩ := F
  rw [hst] at fl hA
  refine noteOn hA hfr fl fun h4 held up4 => ?_
  refine landAt (s := { s with heap := h4 }) held.1 held.2.1 held.2.2.1 held.2.2.2 fun h5 fl5 up5 => ?_
  refine h _ ⟨s0, H0, B, I, os, bare, xb, (sl.trans I.stack up4).trans I.stack up5, ?_⟩
  rw [hst]
  exact fl5
theorem Fl.again {M : Model} {A : Around} {E : Value → Shared → Prop} {Q : Unit → Shared → Prop} (F : Fl X pins σ e cls c H s) (h : ∀ s', Fl X pins σ e cls c H s' → Q () s') : wpAny M A (setFlight (.ref e) none) Q E s := by
  obtain ⟨s0, H0, B, I, os, bare, xb, sl, fl⟩ := F
  refine landAt fl.1 fl.2.1 fl.2.2.1 fl.2.2.2 fun h6 fl6 up6 => ?_
  exact h _ ⟨s0, H0, B, I, os, bare, xb, sl.trans I.stack up6, fl6⟩
end
def PX (X : Cx) (ex : Expr) (t : XK → TE) : Prop :=
  ∀ (xe : Value → Shared → Prop) (E : XK) (pins : List (Addr × Obj)) (s : Shared) (σ : St) (H : Hp) (Q : VK), Inv X pins σ H s → t E σ H Q → (∀ e cls c H' s', Fl X pins σ e cls c H' s' → E cls c H' → xe (.ref e) s') →
    wpAny (model X.prog X.w) X.A (eval ex X.env) (EP X pins σ Q) xe s
theorem PA.any {X : Cx} {es : List Expr} {t : TA} (h : PA X.nox es t) {pos : Pos} {pins : List (Addr × Obj)} {s : Shared} {σ : St} {H : Hp} {Q : List V → Hp → Prop} (I : Inv X pins σ H s) (q : t σ H Q) (xe : Value → Shared → Prop) :
    wpAny (model X.prog X.w) X.A (spliced (backTo pos (starEach es X.env))) (AP X pins σ Q) xe s :=
  wpAny_mono (h pos pins s σ H Q (I.wish _) q) (fun us s' ⟨vs, H', I', r⟩ => ⟨vs, H', I'.unwish, r⟩) fun _ _ z => z.elim
section
variable {X : Cx} {k : Nat} {f C : Addr} {fd : FuncData} {ps : List Str} {sp : Sp} {x m : Str} {p pos apos : Pos} {e o : Expr} {es : List Expr} {ta : TE} {t : TA}
theorem runX {pins : List (Addr × Obj)} {σ : St} {H : Hp} {s : Shared} {Q : VK} {us : List Value} {vs : List V} {E : XK} {xe : Value → Shared → Prop} (F : FnOk X.prog X.w X.K X.mg X.base (CX1 X.prog X.w) k f fd ps sp) (hr : Room k X.A) (hb : Binds X.K fd ps [])
    (I : Inv X pins σ H s) (r : Vals vs us) (h : sp vs H Q E) (hx : ∀ e cls c H' s', Fl X pins σ e cls c H' s' → E cls c H' → xe (.ref e) s') : wpAny (model X.prog X.w) X.A (call (.ref f) us) (EP X pins σ Q) xe s := by
  have hl : (us ++ []).length = ps.length := by rw [List.append_nil, ← r.length]; exact F.len _ _ _ _ h
  have hb' := hb s us I.kIn hl
  rw [List.append_nil] at hb'
  refine wpAny_call (codeAny_mono (F.run X.A X.stack s H ⟨us, []⟩ us vs Q E hr I.env0 hb' r h) fun r s' hq => ?_)
  cases r with
  | error e =>
    obtain ⟨e', cls, a0, B, H', rfl, os, bare, xb, sl, fl, q⟩ := hq
    exact hx e' cls a0 H' s' ⟨s, H, B, I, os, bare, xb, sl, fl⟩ q
  | ok fl =>
    cases fl with
    | ret u => exact I.after hq
    | next => exact False.elim hq
    | brk => exact False.elim hq
    | cont => exact False.elim hq
theorem px_call (F : FnOk X.prog X.w X.K X.mg X.base (CX1 X.prog X.w) k f fd ps sp) (hr : Room k X.A) (hg : Gl X x) (hm : X.mg x = some (.ref f)) (hk : PySem.W.keepIn X.K (.ref f) = true) (hb : Binds X.K fd ps [])
    (ha : PA X.nox (e :: es) t) (hdb : (x == ("__debug__" : Str)) = false := by decide) (he : starEach (e :: es) X.env = (false, eval e X.env) :: starEach es X.env := by rfl) (hpl : (backTo pos (starEach es X.env)).any (·.1) = false := by rfl) :
    PX X (.Call (.Name x p) (e :: es) [] pos) (fun E σ H Q => t σ H fun vs H1 => sp vs H1 Q E) := by
  intro xe E pins s σ H Q I h hx
  refine wpAny_Call_Name_kw (ld_glob I hg hm ?_ hdb)
  refine PySem.W.callWith_K (h₀ := X.base) I.ok.mod.kin hk (thn (ha.any I h xe) fun us s1 ⟨vs, H1, I1, r, q⟩ => ⟨I1.kIn, ?_⟩) he hpl
  exact runX F hr hb I1 r q hx
end
theorem match_other {M : Model} {A : Around} {E : Value → Shared → Prop} {K : PySem.W.Frag} {s : Shared} {e C D : Addr} {o : Obj} {b : Bool} {Q : Bool → Shared → Prop} (X : K.In s.heap) (hD : D ≠ C) (q1 : PySem.W.kitOne K (.ref D) (.ref C) = some b)
    (q2 : PySem.W.kitOne K (.ref C) (.type "BaseException") = some true) (he : s.heap.get? e = some o) (hc : o.cls = .ref D) (hq : Q b s) : wpAny M A (excMatches (.ref e) (.ref C)) Q E s := by
  have n1 : ((Value.ref D == Value.ref C) = true) = False := by
    simp only [eq_iff_iff, iff_false]
    intro z
    exact hD (by have := eq_of_beq z; injection this)
  have n2 : ((Value.ref C == Value.type "BaseException") = true) = False := by
    simp only [eq_iff_iff, iff_false]
    intro z
    have := eq_of_beq z
    cases this
  unfold PySem.W.kitOne at q1 q2
  rw [if_neg (by rw [n1]; exact not_false)] at q1
  rw [if_neg (by rw [n2]; exact not_false)] at q2
  obtain ⟨l1, l2, l3⟩ := PySem.W.kit_cls (M := M) X q1
  obtain ⟨_, _, l4⟩ := PySem.W.kit_cls (M := M) X q2
  have kk : ∀ b o, s.heap.get? b = some o → s.heap.get? b = some o := fun _ _ z => z
  unfold excMatches isInstance isExcClass
  refine wpAny_bind (wpAny_bind (l1 _ _ _ _ kk ?_))
  refine wpAny_of_eq tc_notTuple ?_
  try simp only [Bool.false_eq_true, if_false]
  refine wpAny_bind (wpAny_pure ?_)
  simp only [List.forIn_cons, List.forIn_nil]
  refine wpAny_bind (wpAny_bind (wpAny_bind (wpAny_bind (l2 _ _ _ _ kk ?_))))
  simp only [if_true]
  refine l4 _ _ _ _ kk ?_
  simp only [Bool.not_true, Bool.false_eq_true, if_false]
  refine wpAny_pure (wpAny_pure ?_)
  refine wpAny_bind (wpAny_typeOf_ref he ?_)
  rw [hc]
  refine wpAny_bind (wpAny_bind (wpAny_bind (l3 _ _ _ _ kk ?_)))
  cases b with
  | true => exact wpAny_pure (wpAny_pure (wpAny_pure hq))
  | false => exact wpAny_pure (wpAny_pure (wpAny_pure hq))
section
variable {X : Cx} {k : Nat} {f C : Addr} {fd : FuncData} {ps : List Str} {sp : Sp} {x m : Str} {p pos apos : Pos} {e o : Expr} {es : List Expr} {ta : TE} {t : TA}
end
def XA (X : Cx) (e : Addr) : Cx := { X with A := X.A.mark (some (.ref e)), calm := false, xe := fun _ _ => False }
section
variable {X : Cx} {pins : List (Addr × Obj)} {σ : St} {H : Hp} {s : Shared}
theorem Cx.Ok.caught (ok : X.Ok) (e : Addr) : (XA X e).Ok :=
  ⟨ok.mod, ok.kind, ok.glob, ok.blt, ok.above, ok.inj, ok.has, ok.cab, (fun z => by cases z), ok.frames, ok.stk, ok.exf, ok.bs, ok.bsz, ok.noex, ok.exfs, ok.funs, ok.frf⟩
theorem Inv.caught (I : Inv X pins σ H s) (e : Addr) : Inv (XA X e) pins σ H s := ⟨I.ok.caught e, I.os, I.bare, I.base, I.loc, I.cell, I.free, I.freeC, I.pin, I.hok, I.len⟩
theorem Inv.uncaught {e : Addr} (ok : X.Ok) (I : Inv (XA X e) pins σ H s) : Inv X pins σ H s := ⟨ok, I.os, I.bare, I.base, I.loc, I.cell, I.free, I.freeC, I.pin, I.hok, I.len⟩
theorem SP.uncaught {e : Addr} {D : Ends} {f : Flow} (ok : X.Ok) (h : SP (XA X e) pins D f s) : SP X pins D f s := by
  cases f with
  | next => obtain ⟨σ', H', I, q⟩ := h; exact ⟨σ', H', I.uncaught ok, q⟩
  | brk => obtain ⟨σ', H', I, q⟩ := h; exact ⟨σ', H', I.uncaught ok, q⟩
  | cont => obtain ⟨σ', H', I, q⟩ := h; exact ⟨σ', H', I.uncaught ok, q⟩
  | ret u => obtain ⟨v, σ', H', I, r, q⟩ := h; exact ⟨v, σ', H', I.uncaught ok, r, q⟩
end
def PH (X : Cx) (hs : List ExceptHandler) (t : Value → Option Addr → TS) : Prop :=
  ∀ (e : Addr) (cls : Value) (c : Option Addr) (pins : List (Addr × Obj)) (s : Shared) (σ : St) (H : Hp) (D : Ends), Fl X pins σ e cls c H s → t cls c D σ H → wpAny (model X.prog X.w) X.A (handleBy (.ref e) X.env hs) (SP X pins D) X.xe s
section
variable {X : Cx} {x : Str} {C : Addr} {np pos : Pos} {b₀ : Stmt} {suite : List Stmt} {rest : List ExceptHandler} {tb : TS} {tr : Value → Option Addr → TS}
theorem ph_nil : PH X [] (fun _ _ _ _ _ => False) := fun _ _ _ _ _ _ _ _ _ h => h.elim
end
def tTryE (t : XK → TE) (th : Value → Option Addr → TS) : TS := fun D σ H => ∃ E : XK, (t E σ H fun _ H1 => D.nx σ H1) ∧ ∀ cls c H', E cls c H' → th cls c D σ H'
def tTryA (i : Nat) (t : XK → TE) (th : Value → Option Addr → TS) : TS := fun D σ H => ∃ E : XK, (t E σ H fun v H1 => D.nx (σ.set i (some v)) H1) ∧ ∀ cls c H', E cls c H' → th cls c D σ H'
section
variable {X : Cx} {ex : Expr} {t : XK → TE} {th : Value → Option Addr → TS} {h₀ : ExceptHandler} {hs : List ExceptHandler} {p1 pos : Pos}
theorem ps_tryE (hst : X.stack = X.env :: X.outer) (hfr : X.env.frame = some X.env.locals) (hx : PX X ex t) (hh : PH X (h₀ :: hs) th) (hsw : swapsWith ex none p1.line X.env = pure false := by rfl) : PS X (.Try [.Expr ex p1] (h₀ :: hs) [] [] pos) (tTryE t th) := by
  intro pins s σ H D I ⟨E, h, hE⟩
  refine wpAny_Try_except (wpAny_execs_cons (wpAny_Expr_any (thn (hx _ E pins s σ H _ I h fun e cls c H' s' F q => ?_) fun v s1 ⟨x, H1, I1, r1, q1⟩ => ?_) I.quiet hsw))
  · exact F.land I.ok.frames hst hfr fun s2 F2 => hh e cls c pins s2 σ H' D F2 (hE cls c H' q)
  · exact wpAny_execs_nil (wpAny_execs_nil ⟨σ, H1, I1, q1⟩)
theorem ps_tryA {i : Nat} {x : Str} {pos' : Pos} (hst : X.stack = X.env :: X.outer) (hfr : X.env.frame = some X.env.locals) (hN : X.N.Nodup) (hi : X.N[i]? = some x) (hl : Loc X.env.scope x) (hx : PX X ex t) (hh : PH X (h₀ :: hs) th)
    (hsw : swapsWith ex (some (.Name x pos')) p1.line X.env = pure false := by rfl) (hf : X.fn x = true ∨ X.env.scope.names.lookup x = some .local := by first | exact .inl rfl | exact .inr rfl | assumption) :
    PS X (.Try [.Assign [.Name x pos'] ex p1] (h₀ :: hs) [] [] pos) (tTryA i t th) := by
  intro pins s σ H D I ⟨E, h, hE⟩
  refine wpAny_Try_except (wpAny_execs_cons (wpAny_Assign_Name (thn (hx _ E pins s σ H _ I h fun e cls c H' s' F q => ?_) fun v s1 ⟨y, H1, I1, r1, q1⟩ => ?_) hsw))
  · exact F.land I.ok.frames hst hfr fun s2 F2 => hh e cls c pins s2 σ H' D F2 (hE cls c H' q)
  · exact store_ok I1 hN hi hl r1 (fun s2 I2 => wpAny_execs_nil (wpAny_execs_nil ⟨_, H1, I2, q1⟩)) hf
end
section
variable {P : Program} {w : World} {K : PySem.W.Frag} {mg : Str → Option Value} {base : Heap}
theorem Fun.okX {x qual : Str} {st : Stmt} {f : Addr} {fd : FuncData} {N ps : List Str} {k : Nat} {sp : Sp} (F : Fun K x qual st f fd) (S : FnScope N ps (defScope st)) (len : ∀ vs H Q E, sp vs H Q E → vs.length = ps.length)
    (hbody : ∀ (cdv : Value) (A : Around) (outer : List Env) (s : Shared) (H : Hp) (vs : List V) (Q : VK) (E : XK), Room k (A.deeper (envOfC qual (defScope st) s.heap.objs.size f cdv)) → sp vs H Q E →
      ∃ t, PSs (cxOf (CX1 P w) P w K mg base N qual (defScope st) f cdv A outer s H E) (defBody st) t ∧ t { nx := fun _ H' => Q .non H', rt := Q } (start N vs) H) : FnOk P w K mg base (CX1 P w) (k + 1) f fd ps sp := by
  obtain ⟨oc, od, kV, doc, pm, an, cdv, ct, osl, rfl, lk, hcd⟩ := F.ex
  exact fn_of lk hcd S len fun A outer s H vs Q E hr hsp => hbody cdv A outer s H vs Q E hr hsp
theorem raises_cx {N : List Str} {qual : Str} {scope : Scope} {f : Addr} {cd : Value} {A : Around} {outer : List Env} {s : Shared} {H : Hp} {E : XK} : Raises (cxOf (CX1 P w) P w K mg base N qual scope f cd A outer s H E) E :=
  fun _ _ _ _ _ _ _ _ I hx q => raisesX I hx q
end
theorem get_listK {X : Cx} {K : PySem.W.Frag} (hK : X.K = K) : PGet X (rIxL K) := by
  subst hK
  intro pins s σ H o i ov iv Q I ro ri h
  obtain ⟨p, xs, k, z, rfl, rfl, hq, he, q⟩ := h
  cases ro
  obtain ⟨t, rfl⟩ := ri
  obtain ⟨its, r, pl, hz⟩ := I.list hq
  obtain ⟨j, h1, h2, h3, h4, h5⟩ := atI_get he
  obtain ⟨w, ew, rw'⟩ := r.get h2
  have hl := r.length
  have hn := line63
  have fin : EP X pins σ Q w s := ⟨z, H, I, rw', q⟩
  by_cases h0 : 0 ≤ k
  · have hj : k.toNat = j := by
      rw [seqIndex_of h0 h5] at h1
      exact Option.some.inj h1
    exact wpAny_getItem_list pl.isList h0 (by omega) (by rw [hj]; simpa using ew) fin
  · have hj : (k + (its.toArray.size : Int)).toNat = j := by
      rw [seqIndex_neg (by omega) h4] at h1
      rw [List.size_toArray, ← hl]
      exact Option.some.inj h1
    exact wpAny_getItem_list_neg pl.isList (by omega) (by rw [List.size_toArray] <;> omega) (by omega) (by rw [hj]; simpa using ew) fin
section
variable {X : Cx} {K : PySem.W.Frag}
end
end L2
set_option Elab.async false
set_option linter.all false
set_option maxRecDepth 100000
set_option maxHeartbeats 4000000
namespace L2
open PySem PySem.Spec PyProof.Rows
section
variable {K : PySem.W.Frag} {x qual : Str} {st : Stmt} {f : Addr} {fd : FuncData}
theorem Fun.binds1 {p0 : Str} (F : Fun K x qual st f fd) (h : ∀ (kV doc pm : Value) (an : Option Addr) (cdv ct : Value) (a0 : Value), bindArgs (PySem.W.fnOf x qual (defArgs st) (defBody st) (defScope st) .none kV doc pm an cdv ct) ⟨[a0], []⟩ = pure (List.zip [p0] [a0])) : Binds K fd [p0] [] :=
  F.binds fun kV doc pm an cdv ct us hl => match us, hl with | [a0], _ => h kV doc pm an cdv ct _
theorem Fun.binds2 {p0 p1 : Str} (F : Fun K x qual st f fd) (h : ∀ (kV doc pm : Value) (an : Option Addr) (cdv ct : Value) (a0 a1 : Value), bindArgs (PySem.W.fnOf x qual (defArgs st) (defBody st) (defScope st) .none kV doc pm an cdv ct) ⟨[a0, a1], []⟩ = pure (List.zip [p0, p1] [a0, a1])) : Binds K fd [p0, p1] [] :=
  F.binds fun kV doc pm an cdv ct us hl => match us, hl with | [a0, a1], _ => h kV doc pm an cdv ct _ _
theorem Fun.binds3 {p0 p1 p2 : Str} (F : Fun K x qual st f fd) (h : ∀ (kV doc pm : Value) (an : Option Addr) (cdv ct : Value) (a0 a1 a2 : Value), bindArgs (PySem.W.fnOf x qual (defArgs st) (defBody st) (defScope st) .none kV doc pm an cdv ct) ⟨[a0, a1, a2], []⟩ = pure (List.zip [p0, p1, p2] [a0, a1, a2])) : Binds K fd [p0, p1, p2] [] :=
  F.binds fun kV doc pm an cdv ct us hl => match us, hl with | [a0, a1, a2], _ => h kV doc pm an cdv ct _ _ _
theorem Fun.binds4 {p0 p1 p2 p3 : Str} (F : Fun K x qual st f fd) (h : ∀ (kV doc pm : Value) (an : Option Addr) (cdv ct : Value) (a0 a1 a2 a3 : Value), bindArgs (PySem.W.fnOf x qual (defArgs st) (defBody st) (defScope st) .none kV doc pm an cdv ct) ⟨[a0, a1, a2, a3], []⟩ = pure (List.zip [p0, p1, p2, p3] [a0, a1, a2, a3])) : Binds K fd [p0, p1, p2, p3] [] :=
  F.binds fun kV doc pm an cdv ct us hl => match us, hl with | [a0, a1, a2, a3], _ => h kV doc pm an cdv ct _ _ _ _
end
end L2
namespace Com
open PySem L2
theorem same_upd {H H1 : Hp} {b : Addr} {o : HO} (s : Same H H1) (hb : H b = none) : Same H (upd H1 b o) := fun c u e => by
  rw [upd_ne (ne_of_none e hb)]
  exact s c u e
theorem same_new {H : Hp} {b : Addr} {o : HO} (hb : H b = none) : Same H (upd H b o) := same_upd (Same.refl H) hb
theorem seq_mk' {t u : TS} {D : Ends} {σ : St} {H : Hp} (R : St → Hp → Prop) (h1 : ∀ σ' H', R σ' H' → u D σ' H') (h2 : ∀ D' : Ends, (∀ σ' H', R σ' H' → D'.nx σ' H') → t D' σ H) : tSeq t u D σ H := h2 _ h1
theorem for_rangeN {lo : Int} {n : Nat} {g : TG} {tb : TS} {D : Ends} {σ : St} {H : Hp} (Pv : Nat → St → Hp → Prop) (h0 : Pv 0 σ H)
    (hs : ∀ i σ H, i < n → Pv i σ H → ∀ D' : Ends, (∀ σ' H', Pv (i + 1) σ' H' → D'.nx σ' H') → g (.int (lo + i)) σ H fun σ2 H2 => tb D' σ2 H2) (hd : ∀ σ H, Pv n σ H → D.nx σ H) :
    ∃ W : Nat → Nat → St → Hp → Prop, (∃ m, W 0 m σ H) ∧ ∀ i m σ H, W i m σ H →
      ((Itr lo n).stop i H ∧ D.nx σ H) ∨ ((Itr lo n).go i H ∧ ∃ N : St → Hp → Prop, (∀ σ' H', N σ' H' → ∃ m', m' < m ∧ W (i + 1) m' σ' H') ∧ ∀ x H', (Itr lo n).yld i H x H' → g x σ H' fun σ2 H2 => tb { D with nx := N, ct := N, bk := D.nx } σ2 H2) :=
  for_range Pv h0 (fun i σ H hi hp => hs i σ H hi hp _ fun _ _ z => z) hd
theorem asg_lit {v : V} {u : TS} {i : Nat} {D : Ends} {σ : St} {H : Hp} (h : u D (σ.set i (some v)) H) : tSeq (tAsg (tC v) (gName i)) u D σ H := h
def drawn (ns : List Int) (k many : Int) : Int :=
  ((if 0 < (ns.length : Int) then ns.getD (k % (ns.length : Int)).toNat 0 else 7) * (48271 + 9973 * (k % 97)) + (k + 1) * (k + 3) * 16807 + (ns.length : Int)) % 2147483647 / 16 % many
theorem drawn_nn (ns : List Int) (k : Int) {many : Int} (h : 0 < many) : 0 ≤ drawn ns k many := Int.emod_nonneg _ (by omega)
theorem drawn_lt (ns : List Int) (k : Int) {many : Int} (h : 0 < many) : drawn ns k many < many := Int.emod_lt_of_pos _ h
def RowOk (n : Nat) (r : List Int) : Prop := 1 ≤ r.length ∧ r.length ≤ 8 ∧ ∀ e ∈ r, -1 ≤ e ∧ e < (n : Int)
def Wf (rows : List (List Int)) : Prop := 1 ≤ rows.length ∧ rows.length ≤ 12 ∧ ∀ r ∈ rows, RowOk rows.length r
structure Mat (H : Hp) (R : Addr) (as : List Addr) (rows : List (List Int)) : Prop where
  hd : H R = some (.lst (as.map V.ref))
  len : as.length = rows.length
  row : ∀ (i : Nat) a r, as[i]? = some a → rows[i]? = some r → H a = some (.lst (r.map V.int))
  nd : (R :: as).Nodup
theorem Mat.same {H H' : Hp} {R : Addr} {as : List Addr} {rows : List (List Int)} (m : Mat H R as rows) (s : Same H H') : Mat H' R as rows :=
  ⟨s _ _ m.hd, m.len, fun i a r e1 e2 => s _ _ (m.row i a r e1 e2), m.nd⟩
theorem Mat.keep {H H' : Hp} {R : Addr} {as : List Addr} {rows : List (List Int)} (m : Mat H R as rows) (k : ∀ b o, b ∈ R :: as → H b = some o → H' b = some o) : Mat H' R as rows :=
  ⟨k _ _ List.mem_cons_self m.hd, m.len, fun i a r e1 e2 => k _ _ (List.mem_cons_of_mem _ (List.mem_of_getElem? e1)) (m.row i a r e1 e2), m.nd⟩
theorem Mat.upd {H : Hp} {R : Addr} {as : List Addr} {rows : List (List Int)} {b : Addr} {o : HO} (m : Mat H R as rows) (hb : b ∉ R :: as) : Mat (upd H b o) R as rows :=
  m.keep fun c u hc e => by
    rw [upd_ne (fun z => hb (by rw [← z]; exact hc))]
    exact e
theorem Mat.get {H : Hp} {R : Addr} {as : List Addr} {rows : List (List Int)} (m : Mat H R as rows) {i : Nat} (hi : i < rows.length) : ∃ a, as[i]? = some a ∧ H a = some (.lst ((rows[i]).map V.int)) ∧ a ∈ as := by
  have h : i < as.length := by rw [m.len]; exact hi
  exact ⟨as[i], List.getElem?_eq_getElem h, m.row i _ _ (List.getElem?_eq_getElem h) (List.getElem?_eq_getElem hi), List.getElem_mem h⟩
theorem Mat.refs {H : Hp} {R : Addr} {as : List Addr} {rows : List (List Int)} (m : Mat H R as rows) {i : Nat} {x : V} (e : (as.map V.ref)[i]? = some x) : ∃ a, ∃ hi : i < rows.length, x = .ref a ∧ as[i]? = some a ∧ H a = some (.lst ((rows[i]).map V.int)) ∧ a ∈ as := by
  rw [List.getElem?_map] at e
  cases q : as[i]? with
  | none => rw [q] at e; cases e
  | some a =>
    rw [q] at e
    have hi : i < rows.length := by rw [← m.len]; exact (List.getElem?_eq_some_iff.mp q).1
    refine ⟨a, hi, (Option.some.inj e).symm, rfl, m.row i a _ q (List.getElem?_eq_getElem hi), List.mem_of_getElem? q⟩
theorem Mat.sq {K : PySem.W.Frag} {H : Hp} {R : Addr} {as : List Addr} {rows : List (List Int)} (m : Mat H R as rows) : SqL K H R (as.map V.ref) := SqL.of m.hd
theorem Mat.reflen {H : Hp} {R : Addr} {as : List Addr} {rows : List (List Int)} (m : Mat H R as rows) : (as.map V.ref).length = rows.length := by rw [List.length_map, m.len]
structure Brd where
  rows : List (List Int)
  turns : List Int
  loads : List Int
  steps : List Int
  taken : Int
def bflds (aR aT aL aS : Addr) (z : Int) : List (Str × V) := [("rows", .ref aR), ("turns", .ref aT), ("loads", .ref aL), ("steps", .ref aS), ("taken", .int z)]
structure BoardAt (C : Addr) (H : Hp) (p dx aR : Addr) (as : List Addr) (aT aL aS : Addr) (b : Brd) : Prop where
  ob : H p = some (.ins C dx (bflds aR aT aL aS b.taken))
  mat : Mat H aR as b.rows
  hT : H aT = some (.lst (b.turns.map V.int))
  hL : H aL = some (.lst (b.loads.map V.int))
  hS : H aS = some (.lst (b.steps.map V.int))
  nd : (p :: aT :: aL :: aS :: aR :: as).Nodup
theorem BoardAt.keep {C : Addr} {H H' : Hp} {p dx aR : Addr} {as : List Addr} {aT aL aS : Addr} {b : Brd} (B : BoardAt C H p dx aR as aT aL aS b) (k : ∀ c o, c ∈ p :: aT :: aL :: aS :: aR :: as → H c = some o → H' c = some o) : BoardAt C H' p dx aR as aT aL aS b :=
  ⟨k _ _ (by simp) B.ob, B.mat.keep fun c o hc => k c o (by simp at hc ⊢; rcases hc with h | h <;> simp [h]), k _ _ (by simp) B.hT, k _ _ (by simp) B.hL, k _ _ (by simp) B.hS, B.nd⟩
theorem BoardAt.same {C : Addr} {H H' : Hp} {p dx aR : Addr} {as : List Addr} {aT aL aS : Addr} {b : Brd} (B : BoardAt C H p dx aR as aT aL aS b) (s : Same H H') : BoardAt C H' p dx aR as aT aL aS b := B.keep fun c o _ => s c o
theorem bf_rows (aR aT aL aS : Addr) (z : Int) : (bflds aR aT aL aS z).lookup ("rows" : Str) = some (.ref aR) := by rfl
theorem bf_turns (aR aT aL aS : Addr) (z : Int) : (bflds aR aT aL aS z).lookup ("turns" : Str) = some (.ref aT) := by rfl
theorem bf_loads (aR aT aL aS : Addr) (z : Int) : (bflds aR aT aL aS z).lookup ("loads" : Str) = some (.ref aL) := by rfl
theorem bf_steps (aR aT aL aS : Addr) (z : Int) : (bflds aR aT aL aS z).lookup ("steps" : Str) = some (.ref aS) := by rfl
theorem bf_taken (aR aT aL aS : Addr) (z : Int) : (bflds aR aT aL aS z).lookup ("taken" : Str) = some (.int z) := by rfl
theorem putF_new (f : Str) (v : V) : ∀ fs : List (Str × V), (∀ p ∈ fs, p.1 ≠ f) → putF f v fs = fs ++ [(f, v)]
  | [], _ => rfl
  | (g, u) :: r, h => by
    have hg : ¬ g = f := h (g, u) List.mem_cons_self
    show (if g = f then (g, v) :: r else (g, u) :: putF f v r) = _
    rw [if_neg hg, putF_new f v r fun p hp => h p (List.mem_cons_of_mem _ hp)]
    rfl
theorem bflds_mk (aR aT aL aS : Addr) : putF "taken" (.int 0) (putF "steps" (.ref aS) (putF "loads" (.ref aL) (putF "turns" (.ref aT) (putF "rows" (.ref aR) [])))) = bflds aR aT aL aS 0 := by
  have n1 : ∀ p ∈ ([("rows", .ref aR)] : List (Str × V)), p.1 ≠ ("turns" : Str) := fun p hp => by
    rw [List.mem_singleton.mp hp]; show ("rows" : Str) ≠ "turns"; decide +kernel
  have k (ks : List Str) (f : Str) (h : f ∉ ks) (fs : List (Str × V)) (e : fs.map (·.1) = ks) : ∀ p ∈ fs, p.1 ≠ f := fun p hp z => h (by rw [← e, ← z]; exact List.mem_map.mpr ⟨p, hp, rfl⟩)
  rw [show putF "rows" (.ref aR) [] = ([("rows", .ref aR)] : List (Str × V)) from rfl, putF_new "turns" _ _ n1, putF_new "loads" _ _ (k ["rows", "turns"] _ (by decide +kernel) _ rfl), putF_new "steps" _ _ (k ["rows", "turns", "loads"] _ (by decide +kernel) _ rfl), putF_new "taken" _ _ (k ["rows", "turns", "loads", "steps"] _ (by decide +kernel) _ rfl)]
  rfl
end Com
set_option Elab.async false
set_option linter.all false
set_option maxRecDepth 100000
set_option maxHeartbeats 4000000
namespace L2
open PySem PySem.Spec PyProof.Rows
def excO (D e : Addr) : HO := .ext fun h => ∃ ox, h.get? e = some ox ∧ ox.cls = .ref D
structure XIs (K : PySem.W.Frag) (D : Addr) : Prop where
  hg : PySem.W.findIn K (.ref D) "__getattribute__" = some (some (.builtin "BaseException.__getattribute__"))
  hk : PySem.W.findIn K (.ref D) "__getattr__" = some none
  kb : PySem.W.kitOne K (.ref D) (.type "BaseException") = some true
  hd : PySem.W.hasDictIn K D = true
  ha : PySem.W.findIn K (.ref D) "__class__" = some (some (.builtin "object.__class__"))
  hn : PySem.W.specialIn K (.builtin "object.__class__") "__get__" = some (some (.builtin "getset_descriptor.__get__"))
  ht : PySem.W.takesIn K (.builtin "object.__class__") = some true
  hm : PySem.W.mroIn K D (.type "object") = some true
section
open PySem.W PySem.Calls PySem.Builtin PySem.Builtin.ObjectAttr PySem.Builtin.Getset_descriptor
variable {prog : Program} {w : World} {A : Around} {E : Value → Shared → Prop} {s : Shared} {K : Frag} {x D : Addr} {ox : Obj}
theorem xc_look {M : Model} {h : Heap} (he : h.get? x = some ox) (hc : ox.cls = .ref D) : Looks M h (typeOf (.ref x)) (.ref D) := hc ▸ (Looks.ld he).andThen .now
theorem xc_find {M : Model} {h : Heap} (X : K.In h) (F : XIs K D) : Looks M h (find (.ref x) (.ref D) "__class__") (.bind (.builtin "getset_descriptor.__get__") (.builtin "object.__class__")) := by
  have L1 := looks_findIn (M := M) X F.ha
  have L2 := looks_specialIn (M := M) X F.hn
  have L3 := looks_takesIn (M := M) X F.ht
  exact L1.andThen (L2.andThen ((show Looks M h (dataDescriptor? (some (.builtin "object.__class__")) (some (.builtin "getset_descriptor.__get__"))) (some (.builtin "getset_descriptor.__get__", .builtin "object.__class__")) from L3.andThen .now).andThen (Looks.tag .now)))
theorem xc_got {tp : Value} {R : Result → Shared → Prop} (X : K.In s.heap) (he : s.heap.get? x = some ox) (hc : ox.cls = .ref D) (F : XIs K D) (h : R (.ok (.ret (.ref D))) s) :
    codeAny (model prog w) A (.call (.builtin "getset_descriptor.__get__") ⟨[.builtin "object.__class__", .ref x, tp], []⟩) R s := by
  obtain ⟨hh, g, dr, t, os⟩ := s
  have L0 := xc_look (M := model prog w) he hc
  have L1 := looks_mroIn (M := model prog w) X F.hm
  refine codeAny_call_builtin KF.slot_gs.plain KF.entry_gs (KF.slot_gs.check _ _ _ _ _ _ _ _ KF.type_class (KF.args_gs _ _ _) ?_)
  unfold Builtin.«getset_descriptor.__get__» descrGet
  rw [dga_obj]
  refine wpAny_bind (wpAny_pure ?_)
  unfold descrGetter descrCheckInstance descrNameAndClass isInstance
  simp only [KF.owner_class]
  repeat lk
  refine ⟨Code.quiet_builtin _ (by decide +kernel), codeAny_builtin KF.entry_class ?_⟩
  unfold Builtin.«object.__class__» shownTypeOf
  repeat lk
  exact h
theorem xc_check {M : Model} {nameV : Value} {Q : Unit → Shared → Prop} (X : K.In s.heap) (he : s.heap.get? x = some ox) (hc : ox.cls = .ref D) (F : XIs K D) (hq : Q () s) : wpAny M A (checkBuiltinCall "BaseException.__getattribute__" ⟨[.ref x, nameV], []⟩) Q E s := by
  have n2 : ((Value.ref D == Value.type "BaseException") = true) = False := by
    simp only [eq_iff_iff, iff_false]
    intro z
    have := eq_of_beq z
    cases this
  have q2 := F.kb
  unfold PySem.W.kitOne at q2
  rw [if_neg (by rw [n2]; exact not_false)] at q2
  obtain ⟨_, _, l4⟩ := PySem.W.kit_cls (M := M) X q2
  have hk : builtinKind "BaseException.__getattribute__" = some .slot := by decide +kernel
  have hsplit : splitId "BaseException.__getattribute__" = some ("BaseException", "__getattribute__") := by decide +kernel
  have ha := PySem.F.args_bexc_ga (.ref x) nameV
  have L0 := xc_look (M := M) he hc
  have LI : Looks M s.heap (isInstance (.ref x) (.type "BaseException")) true := L0.andThen l4
  simp only [checkBuiltinCall, hk, hsplit]
  refine wpAny_bind (LI.at ?_)
  repeat (first | assumption | wp_step)
theorem xc_entry {tk : Tok} {Q : PySem.Fin → Shared → Prop} (X : K.In s.heap) (he : s.heap.get? x = some ox) (hc : ox.cls = .ref D) (F : XIs K D) (hq : Q (.done (.ret (.ref D))) s) :
    wpAny (model prog w) A (Builtin.«object.__getattribute__» ⟨[.ref x, .str "__class__" tk], []⟩) Q E s := by
  obtain ⟨h, g, d, t, os⟩ := s
  have L0 := xc_look (M := model prog w) he hc
  have L2 := xc_find (M := model prog w) (x := x) X F
  unfold Builtin.«object.__getattribute__»
  repeat (any_goals (first | assumption | with_reducible refine L0.at ?_ | with_reducible refine L2.at ?_ | wp_step))
  exact xc_got (s := ⟨h, g, d, t, os⟩) X he hc F (wpAny_pure hq)
theorem xc_class {Q : Option Value → Shared → Prop} (X : K.In s.heap) (he : s.heap.get? x = some ox) (hc : ox.cls = .ref D) (F : XIs K D) (h : Q (some (.ref D)) { s with toks := s.toks + 1 }) :
    wpAny (model prog w) A (getAttr? (.ref x) "__class__") Q E s := by
  obtain ⟨hh, g, d, t, os⟩ := s
  have L0 := xc_look (M := model prog w) he hc
  have L1 := looks_findIn (M := model prog w) X F.hg
  have L3 := looks_findIn (M := model prog w) X F.hk
  have f3 := PySem.F.excAttr_ValueError.ga.bind (.ref x)
  have hx0 : (false && onTheHeap (Value.builtin "BaseException.__getattribute__")) = false := rfl
  have hx2 : (Value.builtin "BaseException.__getattribute__" == Value.builtin "object.__getattribute__") = false := by decide +kernel
  have hx1 : (onTheHeap (Value.ref D) && Value.builtin "BaseException.__getattribute__" == Value.builtin "object.__getattribute__") = false := by rw [hx2]; rfl
  unfold getAttr? getAttrBy? getAttrBy
  refine wpAny_bind (wpAny_mkText (wpAny_bind (wpAny_attempt (wpAny_holding (wpAny_bind (L0.at (wpAny_bind (L1.at ?_))))))))
  dsimp only
  rw [if_neg (by rw [hx1]; exact Bool.false_ne_true)]
  unfold getAttrByItsOwn
  repeat (any_goals (first | assumption | with_reducible refine L0.at ?_ | with_reducible refine L1.at ?_ | with_reducible refine L3.at ?_ | wp_step))
  refine codeAny_call_builtin PySem.F.excAttr_ValueError.ga.plain PySem.F.entry_bexc_ga (xc_check (s := ⟨hh, g, d, t + 1, os⟩) X he hc F (xc_entry X he hc F ?_))
  repeat (any_goals (first | assumption | wp_step))
theorem kitx_exc (F : XIs K D) : KitX K (.ref x) (.ref D) (fun h => ∃ ox, h.get? x = some ox ∧ ox.cls = .ref D) where
  ty := fun _ _ _ ⟨_, he, hc⟩ => xc_look he hc
  it := fun _ _ X _ => by
    obtain ⟨cdD, hcD, _⟩ := any_some F.hd
    unfold clsIn at hcD
    split at hcD
    · rename_i c' d' cd' sl' ho
      intro A' Q' E' s' k q
      unfold isType loadHead
      exact wpAny_bind (wpAny_loadPart (k _ _ (X _ _ ho)) (wpAny_pure q))
    · cases hcD
  ne := fun h tp dd its n sl X htp => by
    obtain ⟨cdD, hcD, _⟩ := any_some F.hd
    refine Bool.eq_false_iff.mpr fun q => ?_
    have e : D = tp := Value.ref.inj (beq_iff_eq.mp q)
    subst e
    unfold clsIn at hcD
    split at hcD
    · rename_i c' d' cd' sl' ho
      have z := (X _ _ ho).symm.trans htp
      cases z
    · cases hcD
  ca := fun X ⟨_, he, hc⟩ k => xc_class X he hc F k
end
section
variable {X : Cx}
def rIsX (K : PySem.W.Frag) : List V → Hp → VK → Prop := fun xs H Q => ∃ a D cv c b, xs = [.ref a, cv] ∧ clsV cv = some c ∧ H a = some (excO D a) ∧ XIs K D ∧ PySem.W.kitOne K (.ref D) c = some b ∧ Q (.bl b) H
theorem call_isx {K : PySem.W.Frag} (hK : X.K = K) : CallR X (.builtin "isinstance") (rIsX K) := by
  subst hK
  intro pins s σ H xs us Q I r h
  obtain ⟨a, D, cv, c, b, rfl, hc, ha, F, e, q⟩ := h
  obtain ⟨u, w', rfl, ru, rc⟩ := vals2 r
  have ec := clsV_rel hc rc
  subst ec
  cases ru
  obtain ⟨p, _⟩ := (show ObjOk X.prog X.w H s.heap a (excO D a) from I.hok a _ ha)
  exact PySem.W.kia_one (kitx_exc F) I.kIn p e (fun z => nomatch z) fun tk => ⟨.bl b, H, I.tok tk, rfl, q⟩
end
section
variable {X : Cx} {pins : List (Addr × Obj)} {σ : St} {H : Hp} {s : Shared}
theorem unbind_ok {M : Model} {A : Around} {E : Value → Shared → Prop} {i : Nat} {x : Str} {v : V} {Q : Unit → Shared → Prop} (I : Inv X pins σ H s) (hN : X.N.Nodup) (hi : X.N[i]? = some x) (hv : σ[i]? = some (some v))
    (hkl : X.env.kindOf x = some .local) (hvis : Vis X.env.scope x)
    (h : ∀ s', Inv X pins (σ.set i none) H s' → Q () s') : wpAny M A (unbindName X.env x) Q E s := by
  obtain ⟨m, hn, hl⟩ := id I.loc
  have hcls : (X.env.scope.kind == .class || (X.env.scope.kind == .module && X.env.locals != X.env.globals)) = false := by rw [I.ok.kind]; rfl
  have hiσ : i < σ.length := by rw [I.len]; exact (List.getElem?_eq_some_iff.mp hi).1
  have cne := I.cne
  obtain ⟨u, ru, lu⟩ := hl i x v hi hv hvis
  have hm : m x = some u := by
    rcases lu with ⟨_, e⟩ | ⟨k, _⟩
    · exact e
    · rcases k with k | k <;> (rw [hkl] at k; cases k)
  refine wpAny_unbindName_local hkl hn hm hcls fun h' u' hn' hs => ?_
  obtain ⟨oL, _, _, hoL, _⟩ := id hn
  refine h _ ⟨I.ok, I.os, I.bare, ⟨fun b o e n hb hx => ?_, fun b o e n hb hx => ?_, I.base.free, fun b o e hx => ?_, I.base.tups, I.base.frzs, I.base.tbls⟩, ⟨_, hn', fun j y v' e1 e2 e3 => ?_⟩, fun y c e => ?_, I.free, I.freeC, fun p hp => ?_, fun b ob e => ?_, by simpa using I.len⟩
  · exact (hs.2 b (Nat.ne_of_lt (Nat.lt_of_lt_of_le (Heap.lt_size e) I.ok.above))).trans (I.base.keep b o e n hb hx)
  · obtain ⟨sl, e1⟩ := I.base.slot b o e n hb hx
    exact ⟨sl, (hs.2 b (Nat.ne_of_lt (Nat.lt_of_lt_of_le (Heap.lt_size e) I.ok.above))).trans e1⟩
  · obtain ⟨o', e1⟩ := I.base.there b o e hx
    exact ⟨o', (hs.2 b (Nat.ne_of_lt (Nat.lt_of_lt_of_le (Heap.lt_size e) I.ok.above))).trans e1⟩
  · by_cases hj : j = i
    · subst hj
      rw [List.getElem?_set_self hiσ] at e2
      cases e2
    · rw [List.getElem?_set_ne (Ne.symm hj)] at e2
      obtain ⟨u2, r2, q⟩ := hl j y v' e1 e2 e3
      refine ⟨u2, r2, ?_⟩
      rcases q with ⟨k, e⟩ | ⟨k, c, e, z⟩
      · refine .inl ⟨k, ?_⟩
        have : y ≠ x := fun e => hj (nodup_ix hN e1 (e ▸ hi))
        simp [this, e]
      · exact .inr ⟨k, c, e, z.sameBut hs (cne y c e)⟩
  · obtain ⟨w', z⟩ := I.cell y c e
    exact ⟨w', z.sameBut hs (cne y c e)⟩
  · obtain ⟨e, n, ne, nf, d⟩ := I.pin p hp
    exact ⟨(hs.2 p.1 ne).trans e, n, ne, nf, d⟩
  · refine (I.hok b ob e).stay (fun c w' hc q => (hs.2 c ?_).trans q) (fun _ q => q) fun _ _ q => q
    rintro rfl
    rcases hc with rfl | hc
    · rw [I.free] at e; cases e
    · rw [I.free] at hc; cases hc
end
section
variable {X : Cx} {pins : List (Addr × Obj)} {σ : St} {H : Hp} {s : Shared} {e : Addr}
theorem ObjOk.there {P : Program} {w : World} {H : Hp} {h : Heap} {a : Addr} {o : HO} (x : ObjOk P w H h a o) : ∃ ob, h.get? a = some ob := by
  cases o with
  | lst xs => obtain ⟨_, its, n, _, e⟩ := x; exact ⟨_, e⟩
  | tup xs => obtain ⟨_, _, _, p⟩ := x; obtain ⟨o, e, _⟩ := p; exact ⟨_, e⟩
  | dK kvs => obtain ⟨_, _, vs, _, p⟩ := x; obtain ⟨o, es, ep, e, _⟩ := p; exact ⟨_, e⟩
  | dT kvs => obtain ⟨_, _, xs, _, o, es, ep, e, _⟩ := x; exact ⟨_, e⟩
  | set S n => obtain ⟨o, _, _, _, e, _⟩ := x; exact ⟨_, e⟩
  | ins C dx fs => obtain ⟨_, _, _, e, _⟩ := x; exact ⟨_, e⟩
  | own y => exact x
  | xd fs => obtain ⟨_, ⟨_, _, _, e, _⟩, _⟩ := x; exact ⟨_, e⟩
  | met f y => exact ⟨_, x⟩
  | rng lo hi => obtain ⟨_, _, _, e⟩ := x; exact ⟨_, e⟩
  | frz ob u => exact ⟨_, x.1⟩
  | tbl ps => exact ⟨_, x⟩
  | ext φ => exact x.2.1
theorem Fl.fresh {cls : Value} {c : Option Addr} (F : Fl X pins σ e cls c H s) : H e = none := by
  obtain ⟨s0, H0, B, I, os, bare, xb, sl, fl⟩ := F
  cases q : H e with
  | none => rfl
  | some o =>
    have := (xb.hok e o q).there
    obtain ⟨ob, z⟩ := this
    rw [fl.2.1] at z; cases z
theorem Fl.track {D : Addr} {c : Option Addr} (F : Fl X pins σ e (.ref D) c H s) : Inv X pins σ (upd H e (excO D e)) s := by
  have hfresh := F.fresh
  have hIn := F.inv
  obtain ⟨o, he, hc⟩ := F.there
  obtain ⟨s0, H0, B, I, os, bare, xb, sl, fl⟩ := F
  have u := xb.un fl.1 sl I.stkFree
  have ne0 : ∀ b ob, s0.heap.get? b = some ob → b ≠ e := fun b ob q z => by
    subst z
    by_cases hb : b ∈ frs X.stack
    · obtain ⟨oe, vs, T, oT, ts, h1, h2, h3, _⟩ := fl.2.2.2
      obtain ⟨_, o2, ho2, hd2⟩ := fl.2.2.1.mem hb
      rw [h1] at ho2
      cases ho2
      exact hd2 vs h3
    · obtain ⟨o', q'⟩ := xb.there b ob q hb
      rw [fl.2.1] at q'; cases q'
  refine I.call' (ch := []) os ⟨u.keep, u.slot, fun b ob q n hx => ?_, u.there, fun b xs q => ?_, fun b ob xs q => ?_, fun b ps q => ?_⟩ (fun b ob q => ?_) bare fun b z => by cases z
  · rw [upd_ne (ne0 b ob q)]; exact u.free b ob q n hx
  · have z := u.tups b xs q
    rw [upd_ne (ne_of_none z hfresh)]; exact z
  · have z := u.frzs b ob xs q
    rw [upd_ne (ne_of_none z hfresh)]; exact z
  · obtain ⟨m, z⟩ := u.tbls b ps q
    exact ⟨m, by rw [upd_ne (ne_of_none z hfresh)]; exact z⟩
  · by_cases hb : b = e
    · subst hb
      rw [upd_same] at q
      cases q
      exact ⟨⟨o, he, hc⟩, ⟨o, he⟩, fun h1 h2 ⟨ox, p1, p2⟩ k => ⟨ox, k ox p1, p2⟩⟩
    · rw [upd_ne hb] at q
      exact (hIn.hok b ob q).stay (fun _ _ _ z => z) (fun c z => by rw [upd_ne (ne_of_none z hfresh)]; exact z) fun c xs z => by rw [upd_ne (ne_of_none z hfresh)]; exact z
def unb (i : Nat) (D : Ends) : Ends := { nx := fun σ H => D.nx (σ.set i none) H, rt := D.rt, bk := fun σ H => D.bk (σ.set i none) H, ct := fun σ H => D.ct (σ.set i none) H }
theorem unbind_suite {M : Model} {A : Around} {E : Value → Shared → Prop} {i : Nat} {x : Str} {pos : Pos} {D : Ends} {f : Flow} (ok : X.Ok) (hN : X.N.Nodup) (hi : X.N[i]? = some x) (hkl : X.env.kindOf x = some .local) (hvis : Vis X.env.scope x)
    (h : SP X pins (unb i D) f s) : wpAny M A (do bindName X.env x .none; unbindBehindTheSuite X.env x pos) (fun _ s' => SP X pins D f s') E s := by
  have go : ∀ (σ' : St) (H' : Hp) (Q : Unit → Shared → Prop), Inv X pins σ' H' s → (∀ s', Inv X pins (σ'.set i none) H' s' → Q () s') → wpAny M A (do bindName X.env x .none; unbindBehindTheSuite X.env x pos) Q E s := fun σ' H' Q I q => by
    have hiσ : i < σ'.length := by rw [I.len]; exact (List.getElem?_eq_some_iff.mp hi).1
    unfold bindName
    refine wpAny_bind (wpAny_bind (wpAny_holding (wpAny_point (wpAny_bind (store_ok I hN hi (.inl hkl) (v := .non) rfl (fun s1 I1 => wpAny_point ?_) (.inr hkl))))))
    unfold unbindBehindTheSuite
    refine wpAny_onRaise (unbind_ok I1 hN hi (v := .non) (by rw [List.getElem?_set_self hiσ]) hkl hvis fun s2 I2 => q s2 ?_)
    rw [List.set_set] at I2
    exact I2
  cases f with
  | next => obtain ⟨σ', H', I, q⟩ := h; exact go σ' H' _ I fun s' I' => ⟨_, _, I', q⟩
  | brk => obtain ⟨σ', H', I, q⟩ := h; exact go σ' H' _ I fun s' I' => ⟨_, _, I', q⟩
  | cont => obtain ⟨σ', H', I, q⟩ := h; exact go σ' H' _ I fun s' I' => ⟨_, _, I', q⟩
  | ret u => obtain ⟨v, σ', H', I, r, q⟩ := h; exact go σ' H' _ I fun s' I' => ⟨v, _, _, I', r, q⟩
end
def tHsA (K : PySem.W.Frag) (i : Nat) (C : Addr) (tb : TS) (tr : Value → Option Addr → TS) : Value → Option Addr → TS := fun cls c D σ H =>
  ∃ (B : Addr) (b : Bool), cls = .ref B ∧ B ≠ C ∧ PySem.W.kitOne K (.ref B) (.ref C) = some b ∧ if b = true then ∀ e, H e = none → tb (unb i D) (σ.set i (some (.ref e))) (upd H e (excO B e)) else tr cls c D σ H
section
variable {X : Cx} {i : Nat} {n x : Str} {C : Addr} {np pos : Pos} {b₀ : Stmt} {suite : List Stmt} {rest : List ExceptHandler} {tb : TS} {tr : Value → Option Addr → TS}
theorem ph_as (hN : X.N.Nodup) (hi : X.N[i]? = some n) (hkl : X.env.kindOf n = some .local) (hvis : Vis X.env.scope n) (hg : Gl X x) (hm : X.mg x = some (.ref C)) (hB : PySem.W.kitOne X.K (.ref C) (.type "BaseException") = some true) (hs : ∀ e, PSs (XA X e) (b₀ :: suite) tb) (hr : PH X rest tr)
    (hd : (x == ("__debug__" : Str)) = false := by decide) :
    PH X (.ExceptHandler (some (.Name x np)) (some n) (b₀ :: suite) pos :: rest) (tHsA X.K i C tb tr) := by
  intro e cls c pins s σ H D F h
  have I := F.inv
  obtain ⟨o, he, hc⟩ := F.there
  refine wpAny_handleBy_cons (codeAny_handlers_test (ld_glob (X := XA X e) (I.caught e) hg hm ?_ hd)) (by intro z; cases z)
  obtain ⟨B, b, ec, nB, kB, q⟩ := h
  subst ec
  refine match_other I.kIn nB kB hB he hc ?_
  cases b with
  | true =>
    have q' : ∀ e, H e = none → tb (unb i D) (σ.set i (some (.ref e))) (upd H e (excO B e)) := q
    have hq := q' e F.fresh
    refine codeAny_handlers_suite_as (F.again fun s' F' => ?_)
    have I' := F'.track
    refine store_ok (X := XA X e) (I'.caught e) hN hi (.inl hkl) (v := .ref e) rfl (fun s2 I2 => ?_) (.inr hkl)
    refine wpAny_mono (hs e pins s2 _ _ _ I2 hq) (fun f s3 z => ?_) fun _ _ z => z.elim
    exact unbind_suite I.ok hN hi hkl hvis (SP.uncaught I.ok z)
  | false => exact hr e (.ref B) c pins s σ H D F q
end
end L2
set_option Elab.async false
set_option linter.all false
set_option maxRecDepth 100000
set_option maxHeartbeats 4000000
namespace L2
open PySem PySem.Spec PyProof.Rows
section
variable {X : Cx} {pins : List (Addr × Obj)} {σ : List (Option V)} {H : Hp} {s : Shared} {h' : Heap}
theorem Inv.turnedL {t' : Nat} {fp : List Addr} (I : Inv X pins σ H s) (k : ∀ b o, b ∉ fp → s.heap.get? b = some o → h'.get? b = some o) (hf : ∀ b ∈ fp, FpOk X pins H b) : Inv X pins σ H { s with heap := h', toks := t' } := by
  have nit : ∀ b u, H b = some u → b ∉ fp := fun b u e z => by rw [(hf b z).1] at e; cases e
  refine I.step (g' := s.gens) (d' := s.drawn) (ch := fp) (fun b hb => ?_) (fun b o _ _ hc e _ => k b o hc e) (fun b o _ _ hc e _ => ⟨o.slots, k b o hc e⟩) (fun _ _ _ _ n => n)
    (fun b o hc e => ⟨o, k b o hc e⟩) (fun _ _ e => e) (fun _ _ _ e => e) (fun b ps e => ⟨#[], by rw [e]; simp⟩) (fun m hm => ?_) (fun b u e => ?_) I.bare
  · obtain ⟨_, f1, _, f3, f4, f5⟩ := hf b hb
    exact ⟨f3, f1, f4, f5⟩
  · obtain ⟨o, es, ep, ho, r⟩ := hm
    exact ⟨o, es, ep, k _ o (fun z => (hf _ z).2.1 rfl) ho, r⟩
  · refine (I.hok b u e).stay (fun c v hc q => k c v ?_ q) (fun _ q => q) fun _ _ q => q
    rcases hc with z | z
    · rw [z]; exact nit b u e
    · exact nit c _ z
theorem Inv.track {a : Addr} {o : HO} (I : Inv X pins σ H s) (f : FpOk X pins H a) (hsz : X.s₀.heap.objs.size ≤ a) (new : ObjOk X.prog X.w (upd H a o) s.heap a o) : Inv X pins σ (upd H a o) s := by
  obtain ⟨f0, f1, f2, f3, f4, f5⟩ := f
  have ne0 : ∀ b ob, X.s₀.heap.get? b = some ob → b ≠ a := fun b ob e => Nat.ne_of_lt (Nat.lt_of_lt_of_le (Heap.lt_size e) hsz)
  refine ⟨I.ok, I.os, I.bare, ⟨I.base.keep, I.base.slot, fun b ob e n hx => by rw [upd_ne (ne0 b ob e)]; exact I.base.free b ob e n hx, I.base.there, fun b xs e => ?_, fun b ob u e => ?_, fun b ps e => ?_⟩, I.loc, I.cell, by rw [upd_ne (Ne.symm f1)]; exact I.free, fun x c e => by rw [upd_ne (f4 x c e)]; exact I.freeC x c e, fun p hp => ?_, fun b ob e => ?_, I.len⟩
  · have z := I.base.tups b xs e
    rw [upd_ne (ne_of_none z f0)]; exact z
  · have z := I.base.frzs b ob u e
    rw [upd_ne (ne_of_none z f0)]; exact z
  · obtain ⟨m, z⟩ := I.base.tbls b ps e
    exact ⟨m, by rw [upd_ne (ne_of_none z f0)]; exact z⟩
  · obtain ⟨e, n, r⟩ := I.pin p hp
    exact ⟨e, by rw [upd_ne (f5 p hp)]; exact n, r⟩
  · by_cases hb : b = a
    · subst hb
      rw [upd_same] at e
      cases e
      exact new
    · rw [upd_ne hb] at e
      exact (I.hok b ob e).stay (fun _ _ _ z => z) (fun c z => by rw [upd_ne (ne_of_none z f0)]; exact z) fun c xs z => by rw [upd_ne (ne_of_none z f0)]; exact z
end
def Ite (K : PySem.W.Frag) (a : Addr) (xs : List V) : It :=
  ⟨fun i H => i < xs.length ∧ SqL K H a xs, fun i H x H' => ∃ p y, H p = none ∧ xs[i]? = some y ∧ x = .ref p ∧ H' = upd H p (.tup [.int (i : Int), y]), fun i H => i = xs.length ∧ SqL K H a xs⟩
theorem turn_enum {P : Program} {w : World} {K : PySem.W.Frag} {elts : List Expr} {x1 : Nat} {tpos : Pos} (a e it : Addr) (xs : List V) (hei : e ≠ it) :
    Turn P w K (.Tuple elts x1 tpos) (Ite K a xs) [e, it] e (fun i h => (∃ old, IsEnum h e it ((i : Nat) : Int) old) ∧ h.IsListIter it a i) where
  mem := by simp
  obj := fun i h st b hb => by
    obtain ⟨⟨old, he⟩, o, e2, c, d⟩ := st
    simp only [List.mem_cons, List.not_mem_nil, or_false] at hb
    rcases hb with rfl | rfl
    · exact ⟨_, he, fun v z => by cases z⟩
    · exact ⟨o, e2, fun v z => by rw [d] at z; cases z⟩
  keep := fun i h h' st k => ⟨by obtain ⟨old, he⟩ := st.1; exact ⟨old, k e (by simp) _ he⟩, st.2.at fun o e2 => k it (by simp) o e2⟩
  item := by
    intro X hP hw hK hc i pins s σ H E I hf st hg
    subst hP hw hK
    obtain ⟨hi, hq⟩ := hg
    obtain ⟨⟨old, he⟩, hit⟩ := st
    obtain ⟨its, rv, p, hz⟩ := I.list hq
    have hl := rv.length
    obtain ⟨u, hu, ru⟩ := rv.get (List.getElem?_eq_getElem (l := xs) (i := i) hi)
    refine wpAny_pyNext_enum_item he hit p.isList (x := u) (by simpa using hu) hei fun h1 heo hit1 ht1 hz1 hk1 => ?_
    refine ⟨.ref s.heap.objs.size, rfl, ?_⟩
    refine wpAny_letOwnedTupleGo_enum heo fun h2 he2 hs2 => ?_
    have hes : e < s.heap.objs.size := Heap.lt_size he
    have k2 : ∀ b o, b ∉ [e, it] → s.heap.get? b = some o → h2.get? b = some o := fun b o hb q => by
      simp only [List.mem_cons, List.not_mem_nil, or_false, not_or] at hb
      exact (hs2.2 b hb.1).trans (hk1 b o hb.1 hb.2 q)
    have I1 : Inv X pins σ H { s with heap := h2, toks := s.toks + 1 } := I.turnedL (t' := s.toks + 1) k2 hf
    have fn : H s.heap.objs.size = none := I.hok.fresh (Nat.le_refl _)
    have htup : h2.get? s.heap.objs.size = some { cls := .type "tuple", data := .seq #[.int i s.toks, u] } := (hs2.2 _ (Nat.ne_of_gt hes)).trans ht1
    have I2 := I1.track (a := s.heap.objs.size) (o := .tup [.int (i : Int), xs[i]]) (I.fpOk (Nat.le_refl _) fn) I.sz (by
      refine ⟨by rw [sizeLine_eq]; show 2 ≤ _; decide, [.int i s.toks, u], .cons ⟨_, rfl⟩ (.cons ru .nil), ?_⟩
      exact ⟨_, htup, rfl, _, rfl⟩)
    refine ⟨.ref s.heap.objs.size, _, I2, rfl, ⟨s.heap.objs.size, xs[i], fn, List.getElem?_eq_getElem hi, rfl, rfl⟩, ⟨⟨u, ?_⟩, ?_⟩, fun b hb => ?_⟩
    · have : ((i + 1 : Nat) : Int) = (i : Int) + 1 := by omega
      rw [this]; exact he2
    · exact hit1.extBut hs2.extBut (Ne.symm hei)
    · have hb' := (hf b hb).1
      have : b < s.heap.objs.size := by
        simp only [List.mem_cons, List.not_mem_nil, or_false] at hb
        rcases hb with rfl | rfl
        · exact hes
        · obtain ⟨o, e2, _⟩ := hit; exact Heap.lt_size e2
      rw [upd_ne (Nat.ne_of_lt this)]; exact hb'
  done := by
    intro X hP hw hK hc i pins s σ H E I hf st hg
    subst hP hw hK
    obtain ⟨hi, hq⟩ := hg
    subst hi
    obtain ⟨⟨old, he⟩, hit⟩ := st
    obtain ⟨its, rv, p, hz⟩ := I.list hq
    have hl := rv.length
    refine wpAny_pyNext_enum_end (I.ok.hd hc) he hit p.isList (by simp; omega) fun h1 he1 => ⟨rfl, ?_⟩
    exact I.turnedL (t' := s.toks) (fp := [e, it]) (fun b o hb q => he1 b o (fun z => hb (by simp [z])) q) hf
  self := fun _ _ _ _ _ st h => by obtain ⟨⟨old, he⟩, _⟩ := st; exact wpAny_pyIter_enum he h
def iEnum (K : PySem.W.Frag) (ta : TA) : TI := fun σ H R => ta σ H fun vs H1 => ∃ a xs, vs = [.ref a] ∧ SqL K H1 a xs ∧ R (Ite K a xs) H1
section
variable {X : Cx}
theorem pi_enum {elts : List Expr} {x1 : Nat} {tpos : Pos} {a : Expr} {ta : TA} {p pos : Pos} {K : PySem.W.Frag} (hK : X.K = K) (hg : Gl X "enumerate") (hm : X.mg "enumerate" = none) (ha : PA X [a] ta) (hs : starEach [a] X.env = [(false, eval a X.env)] := by rfl) :
    PI X (.Tuple elts x1 tpos) (.Call (.Name "enumerate" p) [a] [] pos) (iEnum K ta) := by
  subst hK
  intro pins s σ H R I h
  refine Call_ (ld_blt I hg hm boot_enumerate (PyProof.Rows.callWith_type1 (thn (ha pos pins s σ H _ I h) fun us s1 ⟨vs, H1, I1, r1, q1⟩ => ?_) hs rfl))
  obtain ⟨l, xs, e, hq, q⟩ := q1
  subst e
  obtain ⟨u, rfl, ru⟩ := vals1 r1
  cases ru
  obtain ⟨its, rv, pl, hz⟩ := I1.list hq
  refine call_enumerate_list pl.isList fun h1 he hit hsz hk => ?_
  refine wpAny_pyIter_enum (s := { s1 with heap := h1 }) he ?_
  refine ⟨s1.heap.objs.size + 1, [s1.heap.objs.size + 1, s1.heap.objs.size], _, _, H1, rfl, I1.kept (t' := s1.toks) hk, turn_enum l (s1.heap.objs.size + 1) s1.heap.objs.size xs (Nat.succ_ne_self _), ⟨⟨_, he⟩, hit⟩, fun b hb => ?_, q⟩
  simp only [List.mem_cons, List.not_mem_nil, or_false] at hb
  rcases hb with rfl | rfl
  · exact I1.fpOk (Nat.le_succ _) (I1.hok.fresh (Nat.le_succ _))
  · exact I1.fpOk (Nat.le_refl _) (I1.hok.fresh (Nat.le_refl _))
end
theorem for_enumN {K : PySem.W.Frag} {a : Addr} {xs : List V} {g : TG} {tb : TS} {D : Ends} {σ : St} {H : Hp} (Pv : Nat → St → Hp → Prop) (h0 : Pv 0 σ H) (hl : ∀ i σ H, i ≤ xs.length → Pv i σ H → SqL K H a xs)
    (hs : ∀ i x σ H p, xs[i]? = some x → Pv i σ H → H p = none → ∀ D' : Ends, (∀ σ' H', Pv (i + 1) σ' H' → D'.nx σ' H') → g (.ref p) σ (upd H p (.tup [.int (i : Int), x])) fun σ2 H2 => tb D' σ2 H2) (hd : ∀ σ H, Pv xs.length σ H → D.nx σ H) :
    ∃ W : Nat → Nat → St → Hp → Prop, (∃ m, W 0 m σ H) ∧ ∀ i m σ H, W i m σ H →
      ((Ite K a xs).stop i H ∧ D.nx σ H) ∨ ((Ite K a xs).go i H ∧ ∃ N : St → Hp → Prop, (∀ σ' H', N σ' H' → ∃ m', m' < m ∧ W (i + 1) m' σ' H') ∧ ∀ x H', (Ite K a xs).yld i H x H' → g x σ H' fun σ2 H2 => tb { D with nx := N, ct := N, bk := D.nx } σ2 H2) := by
  refine ⟨fun i m σ H => m = xs.length - i ∧ i ≤ xs.length ∧ Pv i σ H, ⟨xs.length, by simp, Nat.zero_le _, h0⟩, ?_⟩
  rintro i m σ H ⟨rfl, hi, p⟩
  have q := hl i σ H hi p
  by_cases hlt : i < xs.length
  · refine .inr ⟨⟨hlt, q⟩, Pv (i + 1), fun σ' H' p' => ⟨xs.length - (i + 1), by omega, rfl, hlt, p'⟩, fun x H' y => ?_⟩
    obtain ⟨c, y, hc, ey, rfl, rfl⟩ := y
    exact hs i y σ H c ey p hc _ fun _ _ z => z
  · have e : i = xs.length := by omega
    subst e
    exact .inl ⟨⟨rfl, q⟩, hd σ H p⟩
end L2
namespace L2
open PySem PySem.Spec PyProof.Rows
section
variable {X : Cx}
end
end L2
namespace L2
open PySem PySem.Spec PyProof.Rows
end L2
set_option Elab.async false
set_option linter.all false
set_option maxRecDepth 100000
set_option maxHeartbeats 4000000
namespace Com
open PySem L2
def reachN (rows : List (List Int)) : Nat → Nat → Bool
  | 0, _ => false
  | k + 1, i => (rows.getD i []).any fun e => e == -1 || (decide (0 ≤ e) && reachN rows k e.toNat)
theorem reachN_mono (rows : List (List Int)) : ∀ (k : Nat) (i : Nat), reachN rows k i = true → reachN rows (k + 1) i = true
  | 0, i, h => by cases h
  | k + 1, i, h => by
    unfold reachN at h ⊢
    obtain ⟨e, he, q⟩ := List.any_eq_true.mp h
    refine List.any_eq_true.mpr ⟨e, he, ?_⟩
    rw [Bool.or_eq_true, Bool.and_eq_true] at q ⊢
    rcases q with q | ⟨q1, q2⟩
    · exact .inl q
    · exact .inr ⟨q1, reachN_mono rows k _ q2⟩
theorem reachN_le (rows : List (List Int)) {j k : Nat} (h : j ≤ k) {i : Nat} (q : reachN rows j i = true) : reachN rows k i = true := by
  induction h with
  | refl => exact q
  | step _ ih => exact reachN_mono rows _ i ih
def Ins (rows : List (List Int)) : Prop := ∀ r ∈ rows, ∀ e ∈ r, -1 ≤ e ∧ e < (rows.length : Int)
theorem Wf.ins {rows : List (List Int)} (W : Wf rows) : Ins rows := fun r hr => (W.2.2 r hr).2.2
theorem reachN_lt {rows : List (List Int)} {k i : Nat} (h : reachN rows k i = true) : i < rows.length := by
  cases k with
  | zero => cases h
  | succ k =>
    unfold reachN at h
    obtain ⟨e, he, _⟩ := List.any_eq_true.mp h
    by_cases hi : i < rows.length
    · exact hi
    · have e0 : rows.getD i [] = [] := by simp [List.getElem?_eq_none (by omega : rows.length ≤ i)]
      rw [e0] at he
      cases he
def Still (rows : List (List Int)) (k : Nat) : Prop := ∀ i, reachN rows (k + 1) i = true → reachN rows k i = true
theorem Still.next {rows : List (List Int)} {k : Nat} (h : Still rows k) : Still rows (k + 1) := fun i q => by
  rw [reachN] at q
  obtain ⟨e, he, q⟩ := List.any_eq_true.mp q
  rw [reachN]
  refine List.any_eq_true.mpr ⟨e, he, ?_⟩
  rw [Bool.or_eq_true, Bool.and_eq_true] at q ⊢
  rcases q with q | ⟨q1, q2⟩
  · exact .inl q
  · exact .inr ⟨q1, h _ q2⟩
theorem Still.all {rows : List (List Int)} {k : Nat} (h : Still rows k) : ∀ m, k ≤ m → ∀ i, reachN rows m i = true → reachN rows k i = true := fun m hm => by
  have hs : ∀ d, Still rows (k + d) := fun d => by
    induction d with
    | zero => exact h
    | succ d ih => exact ih.next
  induction hm with
  | refl => exact fun i q => q
  | @step m hm ih =>
    intro i q
    have e : m = k + (m - k) := by have : k ≤ m := hm; omega
    have hs' := hs (m - k)
    rw [← e] at hs'
    exact ih i (hs' i q)
def cnt (rows : List (List Int)) (k : Nat) : Nat := ((List.range rows.length).filter (reachN rows k)).length
theorem cnt_le (rows : List (List Int)) (k : Nat) : cnt rows k ≤ rows.length := by
  unfold cnt
  exact Nat.le_trans (List.length_filter_le _ _) (by simp)
theorem filter_le {p q : Nat → Bool} (h : ∀ i, p i = true → q i = true) : ∀ l : List Nat, (l.filter p).length ≤ (l.filter q).length
  | [] => Nat.le_refl _
  | a :: l => by
    have ih := filter_le h l
    rw [List.filter_cons, List.filter_cons]
    cases hp : p a with
    | true =>
      rw [h a hp, if_pos rfl, if_pos rfl, List.length_cons, List.length_cons]
      omega
    | false =>
      rw [if_neg Bool.false_ne_true]
      split
      · rw [List.length_cons]; omega
      · exact ih
theorem filter_lt {p q : Nat → Bool} (h : ∀ i, p i = true → q i = true) : ∀ (l : List Nat) (x : Nat), x ∈ l → p x = false → q x = true → (l.filter p).length < (l.filter q).length
  | a :: l, x, hx, hp, hq => by
    rw [List.filter_cons, List.filter_cons]
    rcases List.mem_cons.mp hx with rfl | hx
    · rw [hp, hq, if_neg Bool.false_ne_true, if_pos rfl, List.length_cons]
      have := filter_le h l
      omega
    · have ih := filter_lt h l x hx hp hq
      cases hpa : p a with
      | true =>
        rw [h a hpa, if_pos rfl, if_pos rfl, List.length_cons, List.length_cons]
        omega
      | false =>
        rw [if_neg Bool.false_ne_true]
        split
        · rw [List.length_cons]; omega
        · exact ih
theorem cnt_lt {rows : List (List Int)} {k i : Nat} (h1 : reachN rows (k + 1) i = true) (h0 : reachN rows k i = false) : cnt rows k < cnt rows (k + 1) :=
  filter_lt (fun j => reachN_mono rows k j) _ i (List.mem_range.mpr (reachN_lt h1)) h0 h1
theorem still_or {rows : List (List Int)} (k : Nat) : Still rows k ∨ cnt rows k < cnt rows (k + 1) := by
  by_cases h : Still rows k
  · exact .inl h
  · right
    unfold Still at h
    have : ∃ i, reachN rows (k + 1) i = true ∧ ¬ reachN rows k i = true := Classical.byContradiction fun hn => h fun i q => Classical.byContradiction fun hk => hn ⟨i, q, hk⟩
    obtain ⟨i, h1, h0⟩ := this
    exact cnt_lt h1 (by simpa using h0)
theorem still_by {rows : List (List Int)} : ∀ k, (∃ j, j ≤ k ∧ Still rows j) ∨ k < cnt rows (k + 1)
  | 0 => by
    rcases still_or (rows := rows) 0 with h | h
    · exact .inl ⟨0, Nat.le_refl _, h⟩
    · exact .inr (by omega)
  | k + 1 => by
    rcases still_by (rows := rows) k with ⟨j, hj, h⟩ | h
    · exact .inl ⟨j, by omega, h⟩
    · rcases still_or (rows := rows) (k + 1) with h' | h'
      · exact .inl ⟨k + 1, Nat.le_refl _, h'⟩
      · exact .inr (by omega)
theorem still_len (rows : List (List Int)) : Still rows rows.length := by
  rcases still_by (rows := rows) rows.length with ⟨j, hj, h⟩ | h
  · intro i q
    exact reachN_le rows hj (h.all _ (by omega) i q)
  · have := cnt_le rows (rows.length + 1)
    omega
def rch (rows : List (List Int)) (i : Nat) : Bool := reachN rows rows.length i
theorem rch_of {rows : List (List Int)} {k i : Nat} (h : reachN rows k i = true) : rch rows i = true := by
  unfold rch
  by_cases hk : k ≤ rows.length
  · exact reachN_le rows hk h
  · exact (still_len rows).all k (by omega) i h
theorem rch_step {rows : List (List Int)} {i : Nat} {e : Int} (he : e ∈ rows.getD i []) (h : e = -1 ∨ 0 ≤ e ∧ rch rows e.toNat = true) : rch rows i = true := by
  refine rch_of (k := rows.length + 1) ?_
  rw [reachN]
  refine List.any_eq_true.mpr ⟨e, he, ?_⟩
  rw [Bool.or_eq_true, Bool.and_eq_true]
  rcases h with h | ⟨h1, h2⟩
  · exact .inl (by rw [h]; rfl)
  · exact .inr ⟨decide_eq_true h1, h2⟩
def reachL (rows : List (List Int)) : List Bool := (List.range rows.length).map (rch rows)
theorem reachL_len (rows : List (List Int)) : (reachL rows).length = rows.length := by unfold reachL; simp
theorem reachL_get {rows : List (List Int)} {i : Nat} (h : i < rows.length) : (reachL rows)[i]? = some (rch rows i) := by
  unfold reachL
  rw [List.getElem?_map, List.getElem?_range h]
  rfl
end Com
set_option Elab.async false
set_option linter.all false
set_option maxRecDepth 100000
set_option maxHeartbeats 4000000
namespace Com
open PySem L2
def lastx (r : List Int) (t : Int) : Int := (atI r (t - 1)).getD 0
def lastRows (rows : List (List Int)) (ts : List Int) : List (List Int) := (List.range rows.length).map fun i => [lastx (rows.getD i []) (ts.getD i 0)]
def TurnsOk (rows : List (List Int)) (ts : List Int) : Prop := ts.length = rows.length ∧ ∀ i, i < rows.length → 0 ≤ ts.getD i 0 ∧ ts.getD i 0 < ((rows.getD i []).length : Int)
theorem lastx_mem {r : List Int} {t : Int} (h0 : 0 ≤ t) (h1 : t < (r.length : Int)) : lastx r t ∈ r := by
  unfold lastx atI ixN
  by_cases h : 0 ≤ t - 1
  · rw [if_pos h, if_pos (by omega)]
    have : (t - 1).toNat < r.length := by omega
    show (r[(t - 1).toNat]?).getD 0 ∈ r
    rw [List.getElem?_eq_getElem this]
    exact List.getElem_mem this
  · rw [if_neg h, if_pos (by omega)]
    have : (t - 1 + (r.length : Int)).toNat < r.length := by omega
    show (r[(t - 1 + (r.length : Int)).toNat]?).getD 0 ∈ r
    rw [List.getElem?_eq_getElem this]
    exact List.getElem_mem this
theorem lastRows_len (rows : List (List Int)) (ts : List Int) : (lastRows rows ts).length = rows.length := by unfold lastRows; simp
theorem lastRows_get {rows : List (List Int)} {ts : List Int} {i : Nat} (h : i < rows.length) : (lastRows rows ts).getD i [] = [lastx (rows.getD i []) (ts.getD i 0)] := by
  unfold lastRows
  rw [List.getD_eq_getElem?_getD, List.getElem?_map, List.getElem?_range h]
  rfl
theorem last_in {rows : List (List Int)} {ts : List Int} (W : Wf rows) (hT : TurnsOk rows ts) {i : Nat} (h : i < rows.length) : -1 ≤ lastx (rows.getD i []) (ts.getD i 0) ∧ lastx (rows.getD i []) (ts.getD i 0) < (rows.length : Int) := by
  obtain ⟨t0, t1⟩ := hT.2 i h
  have hm := lastx_mem t0 t1
  have e : rows.getD i [] = rows[i] := by simp [List.getElem?_eq_getElem h]
  rw [e] at hm ⊢
  exact (W.2.2 _ (List.getElem_mem h)).2.2 _ hm
theorem lastRows_ins {rows : List (List Int)} {ts : List Int} (W : Wf rows) (hT : TurnsOk rows ts) : Ins (lastRows rows ts) := fun r hr e he => by
  obtain ⟨i, hi, rfl⟩ := List.mem_map.mp hr
  rw [List.mem_singleton.mp he, lastRows_len]
  exact last_in W hT (List.mem_range.mp hi)
def goOn (rows : List (List Int)) (ts : List Int) (z : Int) : Int := if 0 ≤ z then lastx (rows.getD z.toNat []) (ts.getD z.toNat 0) else z
def walkN (rows : List (List Int)) (ts : List Int) : Nat → Int → Int
  | 0, z => z
  | k + 1, z => goOn rows ts (walkN rows ts k z)
theorem walk_in {rows : List (List Int)} {ts : List Int} : ∀ (k : Nat) (z : Int), walkN rows ts (k + 1) z = walkN rows ts k (goOn rows ts z)
  | 0, z => rfl
  | k + 1, z => by
    show goOn rows ts (walkN rows ts (k + 1) z) = goOn rows ts (walkN rows ts k (goOn rows ts z))
    rw [walk_in k z]
theorem walk_bd {rows : List (List Int)} {ts : List Int} (W : Wf rows) (hT : TurnsOk rows ts) : ∀ (k : Nat) (z : Int), -1 ≤ z → z < (rows.length : Int) → -1 ≤ walkN rows ts k z ∧ walkN rows ts k z < (rows.length : Int)
  | 0, z, h0, h1 => ⟨h0, h1⟩
  | k + 1, z, h0, h1 => by
    obtain ⟨a, b⟩ := walk_bd W hT k z h0 h1
    show -1 ≤ goOn rows ts (walkN rows ts k z) ∧ goOn rows ts (walkN rows ts k z) < (rows.length : Int)
    unfold goOn
    split
    · exact last_in W hT (by omega)
    · exact ⟨a, b⟩
theorem walk_rch {rows : List (List Int)} {ts : List Int} (W : Wf rows) (hT : TurnsOk rows ts) : ∀ (k : Nat) (z : Int), -1 ≤ z → z < (rows.length : Int) → (walkN rows ts k z < 0 ↔ z = -1 ∨ 0 ≤ z ∧ reachN (lastRows rows ts) k z.toNat = true)
  | 0, z, h0, h1 => by
    show z < 0 ↔ _
    constructor
    · intro h; exact .inl (by omega)
    · rintro (h | ⟨_, h⟩)
      · omega
      · cases h
  | k + 1, z, h0, h1 => by
    rw [walk_in]
    by_cases hz : 0 ≤ z
    · have hi : z.toNat < rows.length := by omega
      have hb := last_in W hT hi
      have eg : goOn rows ts z = lastx (rows.getD z.toNat []) (ts.getD z.toNat 0) := by unfold goOn; rw [if_pos hz]
      rw [eg, walk_rch W hT k _ hb.1 hb.2]
      constructor
      · intro h
        refine .inr ⟨hz, ?_⟩
        rw [reachN, lastRows_get hi]
        generalize lastx (rows.getD z.toNat []) (ts.getD z.toNat 0) = e at h
        rcases h with h | ⟨ha, h⟩
        · simp [h]
        · simp [ha, h]
      · rintro (h | ⟨_, h⟩)
        · omega
        · rw [reachN, lastRows_get hi] at h
          simp only [List.any_cons, List.any_nil, Bool.or_false, Bool.or_eq_true, Bool.and_eq_true, beq_iff_eq, decide_eq_true_eq] at h
          rcases h with h | ⟨ha, h⟩
          · exact .inl h
          · exact .inr ⟨ha, h⟩
    · have e : z = -1 := by omega
      subst e
      have eg : goOn rows ts (-1) = -1 := by unfold goOn; rw [if_neg (by decide)]
      rw [eg, walk_rch W hT k _ h0 h1]
      exact ⟨fun _ => .inl rfl, fun _ => .inl rfl⟩
def treeB (rows : List (List Int)) (ts : List Int) : Bool := (reachL (lastRows rows ts)).all id
theorem tree_walk {rows : List (List Int)} {ts : List Int} (W : Wf rows) (hT : TurnsOk rows ts) {i : Nat} (h : i < rows.length) : walkN rows ts rows.length (i : Int) < 0 ↔ rch (lastRows rows ts) i = true := by
  rw [walk_rch W hT _ _ (by omega) (by omega)]
  unfold rch
  rw [lastRows_len, Int.toNat_natCast]
  exact ⟨fun z => by rcases z with z | z; omega; exact z.2, fun z => .inr ⟨by omega, z⟩⟩
theorem tree_all {rows : List (List Int)} {ts : List Int} (W : Wf rows) (hT : TurnsOk rows ts) : treeB rows ts = true ↔ ∀ i, i < rows.length → walkN rows ts rows.length (i : Int) < 0 := by
  unfold treeB reachL
  rw [List.all_eq_true]
  constructor
  · intro h i hi
    rw [tree_walk W hT hi]
    exact h _ (List.mem_map.mpr ⟨i, List.mem_range.mpr (by rw [lastRows_len]; exact hi), rfl⟩)
  · intro h b hb
    obtain ⟨i, hi, rfl⟩ := List.mem_map.mp hb
    have hi' := List.mem_range.mp hi
    rw [lastRows_len] at hi'
    exact (tree_walk W hT hi').mp (h i hi')
end Com
set_option Elab.async false
set_option linter.all false
set_option maxRecDepth 100000
set_option maxHeartbeats 4000000
namespace L2
open PySem PySem.Spec PyProof.Rows
section
variable {X : Cx} {pins : List (Addr × Obj)} {σ : St} {H : Hp} {s : Shared} {tg elt iter : Expr} {g : TG} {ifs : List Expr} {scope : Scope} {pos : Pos} {N' : List Str} {ix : List (Option Nat)} {wi : TI} {ti : TT} {te : TE}
theorem pe_compT {N' : List Str} {ix : List (Option Nat)} (S : CompSc X.N X.env.scope scope N' ix) (hg : ∀ C cl s H fp, N'.Nodup → PG (cxIn X scope N' C cl s H fp) tg g) (hc : X.calm = true) (hi : PI X tg iter wi)
    (ht : ∀ C cl s H fp, PIfs (cxIn X scope N' C cl s H fp) ifs ti) (he : ∀ C cl s H fp, PE (cxIn X scope N' C cl s H fp) elt te) (hs : ∀ x, foldedSetIterable iter X.env x = pure x) :
    PE X (.ListComp elt [⟨tg, iter, ifs, 0⟩] scope pos) (tCompT ix wi g ti te) := by
  intro pins s σ H Q I h
  rw [eval_ListComp]
  obtain ⟨cl, hcl, c1, c2⟩ := comp_clos I S
  refine wpAny_comprehension_free (use := none) rfl hs hcl S.kind S.names (thn (hi pins s σ H _ I h) fun v s1 h1 => thn h1 fun itv s2 h2 => ?_)
  obtain ⟨it, fp, tn, J, H2, e, I2, T, st2, f2, hW⟩ := h2
  subst e
  refine comp_runT (RR := fun acc C => compPost (model X.prog X.w) X.A X.xe none (EP X pins σ Q) acc C) S hg hc ht he c1 c2 I2 T st2 f2 hW fun D C H' s' m' I' hn lo _ q => ?_
  exact ⟨m', hn, fun h' hs' => ⟨.ref D, H', I'.same lo hs' rfl, rfl, q⟩⟩
theorem pg_tupK {K : PySem.W.Frag} {es : List Expr} {k : Nat} {t : TGs} {n : Nat} {pos : Pos} (hK : X.K = K) (hc : X.calm = true) (h : PGs X es t)
    (hn : (assignEach es X.env).length = n := by rfl) (hst : (assignEach es X.env).findIdx? (·.1) = none := by rfl) : PG X (.Tuple es k pos) (gTup K n t) := hK ▸ pg_tup hc h hn hst
def tL (K : PySem.W.Frag) (t : TE) : TT := fun σ H Q => t σ H fun x H1 => ∃ a xs, x = .ref a ∧ SqL K H1 a xs ∧ Q (!xs.isEmpty) H1
theorem pt_lst {K : PySem.W.Frag} {e : Expr} {t : TE} (hK : X.K = K) (h : PE X e t) (he : ∀ whole, isTrue e X.env whole = (do let v ← whole; standAt e.pos; holding [v] (truthy v)) := by intro _; rfl) : PT X e (tL K t) := by
  subst hK
  intro pins s σ H Q I hw
  refine isTrue_plain (thn (h pins s σ H _ I hw) fun v s1 ⟨x, H1, I1, r1, q1⟩ => ?_) (he _)
  obtain ⟨a, xs, rfl, hq, q⟩ := q1
  cases r1
  obtain ⟨its, rv, p, hz⟩ := I1.list hq
  have hl := rv.length
  rw [sizeLine_eq] at hz
  refine wpAny_truthy_list p.isList (by simp; omega) ⟨H1, I1.kept (t' := s1.toks + 1 + 1) fun b o e => e, ?_⟩
  have e : (!its.toArray.isEmpty) = !xs.isEmpty := by
    cases xs with
    | nil =>
      have : its = [] := List.length_eq_zero_iff.mp (by simpa using hl.symm)
      rw [this]; rfl
    | cons y r =>
      cases its with
      | nil => simp at hl
      | cons z r' => simp
  rw [e]
  exact q
end
theorem comp_enumT {K : PySem.W.Frag} {a : Addr} {xs : List V} {σ' : St} {g : TG} {ti : TT} {te : TE} {Q : VK} {H : Hp} (Pv : Nat → List V → Hp → Prop) (h0 : Pv 0 [] H) (hl : ∀ i ys H, i ≤ xs.length → Pv i ys H → SqL K H a xs)
    (hs : ∀ i x ys H p, xs[i]? = some x → Pv i ys H → H p = none → g (.ref p) σ' (upd H p (.tup [.int (i : Int), x])) fun σ2 H1 => (σ2.length = σ'.length ∧ ∀ (k : Nat) z, σ'[k]? = some (some z) → σ2[k]? = some (some z)) ∧ ti σ2 H1 fun b H2 => if b = true then te σ2 H2 fun y H3 => Pv (i + 1) (ys ++ [y]) H3 else Pv (i + 1) ys H2)
    (hz : ∀ i ys H, i < xs.length → Pv i ys H → ys.length < sizeLine)
    (hd : ∀ ys H, Pv xs.length ys H → ∀ D, H D = none → Q (.ref D) (upd H D (.lst ys))) : CompT σ' g ti te Q (Ite K a xs) H := by
  refine ⟨fun i m ys H => m = xs.length - i ∧ i ≤ xs.length ∧ Pv i ys H, ⟨xs.length, by simp, Nat.zero_le _, h0⟩, ?_⟩
  rintro i m ys H ⟨rfl, hi, p⟩
  have q := hl i ys H hi p
  by_cases hlt : i < xs.length
  · refine .inr ⟨⟨hlt, q⟩, ?_⟩
    have hx : xs[i]? = some xs[i] := List.getElem?_eq_getElem hlt
    refine ⟨hz i ys H hlt p, Pv (i + 1), fun ys' H' p' => ⟨xs.length - (i + 1), by omega, rfl, hlt, p'⟩, fun x H' y => ?_⟩
    obtain ⟨c, y, hc, ey, rfl, rfl⟩ := y
    exact hs i y ys H c ey p hc
  · have e : i = xs.length := by omega
    subst e
    exact .inl ⟨⟨rfl, q⟩, hd ys H p⟩
end L2
set_option Elab.async false
set_option linter.all false
set_option maxRecDepth 100000
set_option maxHeartbeats 4000000
namespace L2
open PySem PySem.Spec PyProof.Rows
section
variable {X : Cx}
theorem pe_bmC {o e : Expr} {es : List Expr} {to : TE} {t : TA} {name : Str} {apos cpos : Pos} {T id : String} {r : V → List V → Hp → VK → Prop} {K : PySem.W.Frag} (hK : X.K = K) (pa : PlainAttrs T) (slot : Slot T name id) (hty : typeOf (.builtin id) = pure (.type "method_descriptor")) (hm : MtR X id r) (ho : PE X o to) (ha : PA X (e :: es) t)
    (hbase : attributeBase o name X.env (eval o X.env) = eval o X.env := by rfl)
    (hfew : ((backTo cpos (starEach (e :: es) X.env)).all (fun x => !x.1) && (backToKw cpos (keywordEach [] X.env)).all (fun x => x.1.isSome)
      && decide ((e :: es).length + ([] : List Keyword).length + (if ([] : List Keyword).isEmpty then 0 else 1) < 30)) = true := by rfl)
    (hline : (apos.endLine == cpos.line) = true := by rfl) (hs : starEach (e :: es) X.env = (false, eval e X.env) :: starEach es X.env := by rfl) (hplain : (backTo cpos (starEach es X.env)).any (·.1) = false := by rfl) :
    PE X (.Call (.Attribute o name apos) (e :: es) [] cpos) (tBM K T r to t) := by
  subst hK
  exact pe_bm pa slot hty hm ho ha hbase hfew hline hs hplain
end
end L2
set_option Elab.async false
set_option linter.all false
set_option maxRecDepth 100000
set_option maxHeartbeats 4000000
namespace L2
open PySem PySem.Spec PyProof.Rows
section
variable {X : Cx}
end
section
variable {X : Cx} {tg elt iter : Expr} {g : TG} {ifs : List Expr} {scope : Scope} {pos : Pos} {wi : TI} {ti : TT} {te : TE}
end
theorem comp_inv {J : It} {xs : List V} {σ' : St} {j : Nat} {ti : TT} {te : TE} {Q : VK} {H : Hp} (W : Wk J xs H) (Pv : Nat → List V → Hp → Prop) (h0 : Pv 0 [] H) (hm : ∀ i ys H3, Pv i ys H3 → Same H H3)
    (hs : ∀ i x ys H3, xs[i]? = some x → Pv i ys H3 → ti (σ'.set j (some x)) H3 fun b H4 => if b = true then te (σ'.set j (some x)) H4 fun y H5 => Pv (i + 1) (ys ++ [y]) H5 else Pv (i + 1) ys H4)
    (hz : ∀ i ys H3, i < xs.length → Pv i ys H3 → ys.length < sizeLine)
    (hd : ∀ ys H3, Pv xs.length ys H3 → ∀ D, H3 D = none → Q (.ref D) (upd H3 D (.lst ys))) : CompW σ' j ti te Q J H := by
  refine ⟨fun i m zs H3 => m = xs.length - i ∧ i ≤ xs.length ∧ Pv i zs H3, ⟨xs.length, by simp, Nat.zero_le _, h0⟩, ?_⟩
  rintro i m zs H3 ⟨rfl, hi, p⟩
  have s3 := hm i zs H3 p
  by_cases hlt : i < xs.length
  · refine .inr ⟨W.go i _ s3 hlt, hz i zs H3 hlt p, Pv (i + 1), fun zs' H' p' => ⟨xs.length - (i + 1), by omega, rfl, hlt, p'⟩, fun x H' y => ?_⟩
    obtain ⟨e, ex⟩ := W.yl i _ x H' s3 hlt y
    subst e
    exact hs i x zs H' ex p
  · have e : i = xs.length := by omega
    subst e
    exact .inl ⟨W.st _ s3, fun D hD => hd zs H3 p D hD⟩
end L2
set_option Elab.async false
set_option linter.all false
set_option maxRecDepth 100000
set_option maxHeartbeats 4000000
namespace L2
open PySem PySem.Spec PyProof.Rows
section
variable {X : Cx} {pins : List (Addr × Obj)} {σ : St} {H H' : Hp} {s : Shared}
end
section
variable {X : Cx} {pins : List (Addr × Obj)} {σ : St} {H : Hp} {s : Shared} {tg elt iter : Expr} {g : TG} {ifs : List Expr} {scope : Scope} {pos : Pos} {N' : List Str} {ix : List (Option Nat)} {wi : TI} {ti : TT} {te : TE}
end
end L2
set_option Elab.async false
set_option linter.all false
set_option maxRecDepth 100000
set_option maxHeartbeats 4000000
namespace L2
open PySem PySem.Spec PyProof.Rows
section
variable {X : Cx} {K : PySem.W.Frag}
end
end L2
set_option Elab.async false
set_option linter.all false
set_option maxRecDepth 100000
set_option maxHeartbeats 4000000
namespace L2
open PySem PySem.Spec PyProof.Rows
section
variable {X : Cx} {K : PySem.W.Frag}
end
end L2
set_option Elab.async false
set_option linter.all false
set_option maxRecDepth 100000
set_option maxHeartbeats 4000000
namespace Com
theorem gD_set_self {α : Type} {l : List α} {i : Nat} {v d : α} (h : i < l.length) : (l.set i v).getD i d = v := by
  simp [List.getD_eq_getElem?_getD, List.getElem?_set, h]
theorem gD_set_ne {α : Type} {l : List α} {i j : Nat} {v d : α} (h : i ≠ j) : (l.set i v).getD j d = l.getD j d := by
  simp [List.getD_eq_getElem?_getD, List.getElem?_set_ne h]
theorem gD_mem {α : Type} {l : List α} {i : Nat} {d : α} (h : i < l.length) : l.getD i d ∈ l := by
  rw [List.getD_eq_getElem?_getD, List.getElem?_eq_getElem h]
  exact List.getElem_mem h
theorem sum_set : ∀ {l : List Int} {i : Nat} {v : Int}, i < l.length → (l.set i v).sum = l.sum - l.getD i 0 + v
  | [], _, _, h => absurd h (by simp)
  | x :: r, 0, v, _ => by
    simp only [List.set_cons_zero, List.sum_cons, List.getD_cons_zero]
    omega
  | x :: r, i + 1, v, h => by
    have ih := sum_set (l := r) (i := i) (v := v) (by simpa using h)
    simp only [List.set_cons_succ, List.sum_cons, List.getD_cons_succ]
    omega
def sumTo : Nat → (Nat → Int) → Int
  | 0, _ => 0
  | n + 1, g => sumTo n g + g n
theorem sumTo_congr : ∀ {n : Nat} {g g' : Nat → Int}, (∀ i, i < n → g i = g' i) → sumTo n g = sumTo n g'
  | 0, _, _, _ => rfl
  | n + 1, g, g', h => by
    show sumTo n g + g n = sumTo n g' + g' n
    rw [sumTo_congr (n := n) fun i hi => h i (by omega), h n (by omega)]
theorem sumTo_one : ∀ {n s : Nat} {g g' : Nat → Int}, s < n → (∀ i, i < n → i ≠ s → g' i = g i) → sumTo n g' = sumTo n g - g s + g' s
  | 0, _, _, _, h, _ => absurd h (by omega)
  | n + 1, s, g, g', hs, h => by
    show sumTo n g' + g' n = sumTo n g + g n - g s + g' s
    by_cases e : s = n
    · subst e
      rw [sumTo_congr (n := s) (g := g') (g' := g) fun i hi => h i (by omega) (by omega)]
      omega
    · rw [sumTo_one (n := n) (s := s) (g := g) (g' := g') (by omega) fun i hi => h i (by omega), h n (by omega) (by omega)]
      omega
theorem sumTo_le : ∀ {n : Nat} {g g' : Nat → Int}, (∀ i, i < n → g i ≤ g' i) → sumTo n g ≤ sumTo n g'
  | 0, _, _, _ => Int.le_refl _
  | n + 1, g, g', h => by
    show sumTo n g + g n ≤ sumTo n g' + g' n
    have := sumTo_le (n := n) (g := g) (g' := g') fun i hi => h i (by omega)
    have := h n (by omega)
    omega
theorem sumTo_const (c : Int) : ∀ n : Nat, sumTo n (fun _ => c) = n * c
  | 0 => by simp [sumTo]
  | n + 1 => by
    show sumTo n (fun _ => c) + c = _
    rw [sumTo_const c n, show ((n + 1 : Nat) : Int) = (n : Int) + 1 by omega, Int.add_mul]
    omega
theorem sumTo_list : ∀ (l : List Int), sumTo l.length (fun i => l.getD i 0) = l.sum := by
  have key : ∀ (l : List Int) (k : Nat), k ≤ l.length → sumTo k (fun i => l.getD i 0) = (l.take k).sum := by
    intro l k
    induction k with
    | zero => intro _; simp [sumTo]
    | succ k ih =>
      intro h
      show sumTo k (fun i => l.getD i 0) + l.getD k 0 = _
      rw [ih (by omega), List.take_add_one, List.sum_append, List.getElem?_eq_getElem (show k < l.length by omega), List.getD_eq_getElem?_getD, List.getElem?_eq_getElem (show k < l.length by omega)]
      simp
  intro l
  rw [key l l.length (Nat.le_refl _), List.take_length]
def exitOf (rows : List (List Int)) (ts : List Int) (s : Nat) : Int := (rows.getD s []).getD (ts.getD s 0).toNat 0
def moveL (ls : List Int) (s : Nat) (g : Int) : List Int :=
  if g = -1 then ls.set s (ls.getD s 0 - 1) else (ls.set s (ls.getD s 0 - 1)).set g.toNat ((ls.set s (ls.getD s 0 - 1)).getD g.toNat 0 + 1)
def moveT (z g : Int) : Int := if g = -1 then z + 1 else z
def nextT (rows : List (List Int)) (ts : List Int) (s : Nat) : List Int := ts.set s ((ts.getD s 0 + 1) % ((rows.getD s []).length : Int))
def stepB (b : Brd) (s : Nat) : Brd := ⟨b.rows, nextT b.rows b.turns s, moveL b.loads s (exitOf b.rows b.turns s), b.steps.set s (b.steps.getD s 0 + 1), moveT b.taken (exitOf b.rows b.turns s)⟩
structure BrdOk (b : Brd) : Prop where
  W : Wf b.rows
  T : TurnsOk b.rows b.turns
  L : b.loads.length = b.rows.length
  S : b.steps.length = b.rows.length
  P : ∀ i, 0 ≤ b.loads.getD i 0
theorem le100 {n : Nat} (h : n ≤ 12) : n ≤ 100 := Nat.le_trans h (by decide)
theorem BrdOk.b1 {b : Brd} (O : BrdOk b) : b.rows.length ≤ 100 := le100 O.W.2.1
theorem BrdOk.b4 {b : Brd} (O : BrdOk b) : b.loads.length ≤ 100 := by rw [O.L]; exact O.b1
theorem exit_in {rows : List (List Int)} {ts : List Int} (W : Wf rows) (T : TurnsOk rows ts) {s : Nat} (h : s < rows.length) : -1 ≤ exitOf rows ts s ∧ exitOf rows ts s < (rows.length : Int) := by
  obtain ⟨t0, t1⟩ := T.2 s h
  have hm : exitOf rows ts s ∈ rows.getD s [] := gD_mem (by omega)
  exact (W.2.2 _ (gD_mem h)).2.2 _ hm
theorem row_len {rows : List (List Int)} (W : Wf rows) {s : Nat} (h : s < rows.length) : 1 ≤ (rows.getD s []).length ∧ (rows.getD s []).length ≤ 8 := ⟨(W.2.2 _ (gD_mem h)).1, (W.2.2 _ (gD_mem h)).2.1⟩
theorem moveL_len (ls : List Int) (s : Nat) (g : Int) : (moveL ls s g).length = ls.length := by
  unfold moveL
  split <;> simp
theorem moveL_nn {ls : List Int} {s : Nat} {g : Int} (h : ∀ i, 0 ≤ ls.getD i 0) (hs : 1 ≤ ls.getD s 0) : ∀ i, 0 ≤ (moveL ls s g).getD i 0 := by
  have h1 : ∀ i, 0 ≤ (ls.set s (ls.getD s 0 - 1)).getD i 0 := fun i => by
    by_cases e : s = i
    · subst e
      by_cases hl : s < ls.length
      · rw [gD_set_self hl]; omega
      · rw [List.set_eq_of_length_le (by omega)]; exact h s
    · rw [gD_set_ne e]; exact h i
  intro i
  unfold moveL
  split
  · exact h1 i
  · by_cases e : g.toNat = i
    · subst e
      by_cases hl : g.toNat < (ls.set s (ls.getD s 0 - 1)).length
      · rw [gD_set_self hl]; have := h1 g.toNat; omega
      · rw [List.set_eq_of_length_le (by omega)]; exact h1 _
    · rw [gD_set_ne e]; exact h1 i
theorem nextT_ok {rows : List (List Int)} {ts : List Int} (W : Wf rows) (T : TurnsOk rows ts) {s : Nat} (h : s < rows.length) : TurnsOk rows (nextT rows ts s) := by
  refine ⟨by unfold nextT; rw [List.length_set]; exact T.1, fun i hi => ?_⟩
  unfold nextT
  by_cases e : s = i
  · subst e
    rw [gD_set_self (by rw [T.1]; exact h)]
    have := (row_len W h).1
    exact ⟨Int.emod_nonneg _ (by omega), Int.emod_lt_of_pos _ (by omega)⟩
  · rw [gD_set_ne e]
    exact T.2 i hi
theorem BrdOk.step {b : Brd} (O : BrdOk b) {s : Nat} (h : s < b.rows.length) (hs : 1 ≤ b.loads.getD s 0) : BrdOk (stepB b s) :=
  ⟨O.W, nextT_ok O.W O.T h, by show (moveL _ _ _).length = _; rw [moveL_len]; exact O.L, by show (List.set _ _ _).length = _; rw [List.length_set]; exact O.S, moveL_nn O.P hs⟩
theorem moveL_sum {ls : List Int} {n s : Nat} {g : Int} (f : Int → Int) (hf : f (-1) = 0) (hl : ls.length = n) (h : s < n) (h0 : -1 ≤ g) (h1 : g < (n : Int)) :
    sumTo n (fun i => (moveL ls s g).getD i 0 * f i) = sumTo n (fun i => ls.getD i 0 * f i) - f s + f g := by
  have k1 : sumTo n (fun i => (ls.set s (ls.getD s 0 - 1)).getD i 0 * f i) = sumTo n (fun i => ls.getD i 0 * f i) - f s := by
    rw [sumTo_one (s := s) (g := fun i => ls.getD i 0 * f i) h fun i hi e => by
      show (ls.set s (ls.getD s 0 - 1)).getD i 0 * f i = ls.getD i 0 * f i
      rw [gD_set_ne (Ne.symm e)]]
    show sumTo n (fun i => ls.getD i 0 * f i) - ls.getD s 0 * f s + (ls.set s (ls.getD s 0 - 1)).getD s 0 * f s = _
    rw [gD_set_self (by omega), Int.sub_mul]
    omega
  unfold moveL
  split
  · rename_i e
    rw [k1, e, hf]
    omega
  · rename_i e
    have hg : g.toNat < n := by omega
    rw [sumTo_one (s := g.toNat) (g := fun i => (ls.set s (ls.getD s 0 - 1)).getD i 0 * f i) hg fun i hi e => by
      show ((ls.set s (ls.getD s 0 - 1)).set g.toNat _).getD i 0 * f i = (ls.set s (ls.getD s 0 - 1)).getD i 0 * f i
      rw [gD_set_ne (Ne.symm e)], k1]
    show sumTo n (fun i => ls.getD i 0 * f i) - f s - (ls.set s (ls.getD s 0 - 1)).getD g.toNat 0 * f g.toNat + ((ls.set s (ls.getD s 0 - 1)).set g.toNat ((ls.set s (ls.getD s 0 - 1)).getD g.toNat 0 + 1)).getD g.toNat 0 * f g.toNat = _
    rw [gD_set_self (by rw [List.length_set]; omega), Int.add_mul, show ((g.toNat : Nat) : Int) = g by omega]
    omega
theorem move_sum {ls : List Int} {s : Nat} {g z : Int} (h : s < ls.length) (h0 : -1 ≤ g) (h1 : g < (ls.length : Int)) : (moveL ls s g).sum + moveT z g = ls.sum + z := by
  unfold moveL moveT
  split
  · rw [sum_set h]; omega
  · rw [sum_set (by rw [List.length_set]; omega), sum_set h]
    omega
def dropW (c : Int) (f : Int → Int) (r : List Int) (t : Nat) : Int := ((r.take t).map fun e => c - f e - 1).sum
theorem dropW_succ {c : Int} {f : Int → Int} {r : List Int} {t : Nat} (h : t < r.length) : dropW c f r (t + 1) = dropW c f r t + (c - f (r.getD t 0) - 1) := by
  unfold dropW
  rw [List.take_add_one, List.getElem?_eq_getElem h, List.map_append, List.sum_append, List.getD_eq_getElem?_getD, List.getElem?_eq_getElem h]
  simp
def pot (f : Int → Int) (b : Brd) : Int := sumTo b.rows.length (fun i => b.loads.getD i 0 * f i) + sumTo b.rows.length (fun i => dropW (f i) f (b.rows.getD i []) (b.turns.getD i 0).toNat)
theorem pot_step {f : Int → Int} {b : Brd} (hf : f (-1) = 0) (O : BrdOk b) {s : Nat} (h : s < b.rows.length) (hw : 0 ≤ dropW (f s) f (b.rows.getD s []) (b.rows.getD s []).length) : pot f (stepB b s) ≤ pot f b - 1 := by
  obtain ⟨x0, x1⟩ := exit_in O.W O.T h
  obtain ⟨t0, t1⟩ := O.T.2 s h
  have hl := (row_len O.W h).1
  unfold pot
  show sumTo b.rows.length (fun i => (moveL b.loads s (exitOf b.rows b.turns s)).getD i 0 * f i) + sumTo b.rows.length (fun i => dropW (f i) f (b.rows.getD i []) ((nextT b.rows b.turns s).getD i 0).toNat) ≤ _
  rw [moveL_sum f hf O.L h x0 x1]
  have e4 := sumTo_one (n := b.rows.length) (s := s) (g := fun i => dropW (f i) f (b.rows.getD i []) (b.turns.getD i 0).toNat) (g' := fun i => dropW (f i) f (b.rows.getD i []) ((nextT b.rows b.turns s).getD i 0).toNat) h fun i hi e => by
    show dropW (f i) f (b.rows.getD i []) ((nextT b.rows b.turns s).getD i 0).toNat = _
    unfold nextT
    rw [gD_set_ne (Ne.symm e)]
  rw [e4]
  have e1 : (nextT b.rows b.turns s).getD s 0 = (b.turns.getD s 0 + 1) % ((b.rows.getD s []).length : Int) := by
    unfold nextT
    rw [gD_set_self (by rw [O.T.1]; exact h)]
  have e2 : dropW (f s) f (b.rows.getD s []) ((b.turns.getD s 0).toNat + 1) = dropW (f s) f (b.rows.getD s []) (b.turns.getD s 0).toNat + (f s - f (exitOf b.rows b.turns s) - 1) := dropW_succ (by omega)
  have e3 : dropW (f s) f (b.rows.getD s []) ((nextT b.rows b.turns s).getD s 0).toNat ≤ dropW (f s) f (b.rows.getD s []) ((b.turns.getD s 0).toNat + 1) := by
    rw [e1]
    by_cases e : b.turns.getD s 0 + 1 = ((b.rows.getD s []).length : Int)
    · rw [e, Int.emod_self, show (b.turns.getD s 0).toNat + 1 = (b.rows.getD s []).length by omega]
      show dropW _ _ _ 0 ≤ _
      have z : dropW (f s) f (b.rows.getD s []) 0 = 0 := by unfold dropW; simp
      rw [z]
      exact hw
    · rw [Int.emod_eq_of_lt (by omega) (by omega), show (b.turns.getD s 0 + 1).toNat = (b.turns.getD s 0).toNat + 1 by omega]
      exact Int.le_refl _
  show _ + (_ - dropW (f s) f (b.rows.getD s []) (b.turns.getD s 0).toNat + dropW (f s) f (b.rows.getD s []) ((nextT b.rows b.turns s).getD s 0).toNat) ≤ _
  omega
structure Weigh (rows : List (List Int)) (M : Int) (f : Int → Int) (G D1 D2 : Int) : Prop where
  pit : f (-1) = 0
  low : ∀ i, i < rows.length → 0 ≤ f (i : Nat)
  top : ∀ i, i < rows.length → f (i : Nat) ≤ G
  full : ∀ i, i < rows.length → 0 ≤ dropW (f (i : Nat)) f (rows.getD i []) (rows.getD i []).length
  dLow : ∀ i, i < rows.length → ∀ t, t < (rows.getD i []).length → -D1 ≤ dropW (f (i : Nat)) f (rows.getD i []) t
  dTop : ∀ i, i < rows.length → ∀ t, t < (rows.getD i []).length → dropW (f (i : Nat)) f (rows.getD i []) t ≤ D2
  g0 : 0 ≤ G
  all : M * G + (rows.length : Int) * (D1 + D2) ≤ 20000
def Tame (rows : List (List Int)) (M : Int) : Prop := ∃ f G D1 D2, Weigh rows M f G D1 D2
theorem tame_mu {rows : List (List Int)} {M : Int} (T : Tame rows M) : ∃ μ : Brd → Nat, (∀ b, BrdOk b → b.rows = rows → b.loads.sum ≤ M → μ b ≤ 20000) ∧ ∀ b s, BrdOk b → b.rows = rows → s < rows.length → 1 ≤ b.loads.getD s 0 → μ (stepB b s) + 1 ≤ μ b := by
  obtain ⟨f, G, D1, D2, w⟩ := T
  have lo : ∀ b, BrdOk b → b.rows = rows → -((rows.length : Int) * D1) ≤ pot f b := fun b O e => by
    unfold pot
    rw [e]
    have z1 : (0 : Int) ≤ sumTo rows.length (fun i => b.loads.getD i 0 * f i) := by
      have := sumTo_le (n := rows.length) (g := fun _ => 0) (g' := fun i => b.loads.getD i 0 * f i) fun i hi => Int.mul_nonneg (O.P i) (w.low i hi)
      rw [sumTo_const] at this
      omega
    have z2 := sumTo_le (n := rows.length) (g := fun _ => -D1) (g' := fun i => dropW (f i) f (rows.getD i []) (b.turns.getD i 0).toNat) fun i hi => by
      have := O.T.2 i (by rw [e]; exact hi)
      rw [e] at this
      exact w.dLow i hi _ (by omega)
    rw [sumTo_const, Int.mul_neg] at z2
    omega
  refine ⟨fun b => (pot f b + (rows.length : Int) * D1).toNat, fun b O e hs => ?_, fun b s O e h h1 => ?_⟩
  · have z1 := sumTo_le (n := rows.length) (g := fun i => b.loads.getD i 0 * f i) (g' := fun i => b.loads.getD i 0 * G) fun i hi => Int.mul_le_mul_of_nonneg_left (w.top i hi) (O.P i)
    have z2 : sumTo rows.length (fun i => b.loads.getD i 0 * G) = b.loads.sum * G := by
      have key : ∀ n, sumTo n (fun i => b.loads.getD i 0 * G) = sumTo n (fun i => b.loads.getD i 0) * G := by
        intro n
        induction n with
        | zero => simp [sumTo]
        | succ n ih =>
          show sumTo n (fun i => b.loads.getD i 0 * G) + b.loads.getD n 0 * G = (sumTo n (fun i => b.loads.getD i 0) + b.loads.getD n 0) * G
          rw [ih, Int.add_mul]
      rw [key, ← sumTo_list b.loads, O.L, e]
    have z3 : b.loads.sum * G ≤ M * G := Int.mul_le_mul_of_nonneg_right hs w.g0
    have z4 := sumTo_le (n := rows.length) (g := fun i => dropW (f i) f (rows.getD i []) (b.turns.getD i 0).toNat) (g' := fun _ => D2) fun i hi => by
      have := O.T.2 i (by rw [e]; exact hi)
      rw [e] at this
      exact w.dTop i hi _ (by omega)
    rw [sumTo_const] at z4
    have := w.all
    rw [Int.mul_add] at this
    have e5 : pot f b = sumTo rows.length (fun i => b.loads.getD i 0 * f i) + sumTo rows.length (fun i => dropW (f i) f (rows.getD i []) (b.turns.getD i 0).toNat) := by unfold pot; rw [e]
    show (pot f b + (rows.length : Int) * D1).toNat ≤ 20000
    omega
  · have z1 := pot_step (s := s) w.pit O (by rw [e]; exact h) (by rw [e]; exact w.full s h)
    have z2 := lo (stepB b s) (O.step (by rw [e]; exact h) h1) e
    show (pot f (stepB b s) + (rows.length : Int) * D1).toNat + 1 ≤ (pot f b + (rows.length : Int) * D1).toNat
    omega
def ladenL (ls : List Int) : List Nat := (List.range ls.length).filter fun i => decide (0 < ls.getD i 0)
theorem laden_mem {ls : List Int} {s : Nat} (h : s ∈ ladenL ls) : s < ls.length ∧ 1 ≤ ls.getD s 0 := by
  unfold ladenL at h
  rw [List.mem_filter, List.mem_range, decide_eq_true_eq] at h
  omega
theorem head_laden {ls : List Int} {z : Nat} (h : z < ls.length) (h1 : 0 < ls.getD z 0) (h2 : ∀ i, i < z → ls.getD i 0 ≤ 0) : (ladenL ls).head? = some z := by
  unfold ladenL
  rw [List.head?_filter, List.find?_range_eq_some]
  refine ⟨decide_eq_true h1, List.mem_range.mpr h, fun j hj => ?_⟩
  have := h2 j hj
  simpa using this
theorem laden_none {ls : List Int} (h : ∀ i, i < ls.length → ls.getD i 0 ≤ 0) : ladenL ls = [] := by
  unfold ladenL
  rw [List.filter_eq_nil_iff]
  intro i hi
  have := h i (List.mem_range.mp hi)
  simpa using this
theorem all_open {rows : List (List Int)} (h : ∀ i, i < rows.length → rch rows i = true) : (reachL rows).all id = true := by
  rw [List.all_eq_true]
  intro x hx
  unfold reachL at hx
  obtain ⟨i, hi, rfl⟩ := List.mem_map.mp hx
  exact h i (List.mem_range.mp hi)
def nxt (b : Brd) : Brd := match (ladenL b.loads).head? with
  | none => b
  | some s => stepB b s
def iterR : Nat → Brd → Brd
  | 0, b => b
  | k + 1, b => nxt (iterR k b)
theorem nxt_some {b : Brd} {s : Nat} (h : (ladenL b.loads).head? = some s) : nxt b = stepB b s := by unfold nxt; rw [h]
theorem BrdOk.nxt {b : Brd} (O : BrdOk b) : BrdOk (nxt b) ∧ (Com.nxt b).rows = b.rows ∧ (Com.nxt b).loads.sum + (Com.nxt b).taken = b.loads.sum + b.taken := by
  cases h : (ladenL b.loads).head? with
  | none =>
    have : Com.nxt b = b := by unfold Com.nxt; rw [h]
    rw [this]
    exact ⟨O, rfl, rfl⟩
  | some s =>
    obtain ⟨h1, h2⟩ := laden_mem (List.mem_of_head? h)
    rw [nxt_some h]
    have hs : s < b.rows.length := by rw [← O.L]; exact h1
    have hx := exit_in O.W O.T hs
    exact ⟨O.step hs h2, rfl, move_sum h1 hx.1 (by rw [O.L]; exact hx.2)⟩
theorem BrdOk.iter {b : Brd} (O : BrdOk b) : ∀ k, BrdOk (iterR k b) ∧ (iterR k b).rows = b.rows ∧ (iterR k b).loads.sum + (iterR k b).taken = b.loads.sum + b.taken
  | 0 => ⟨O, rfl, rfl⟩
  | k + 1 => by
    obtain ⟨h1, h2, h3⟩ := O.iter k
    obtain ⟨g1, g2, g3⟩ := h1.nxt
    exact ⟨g1, g2.trans h2, g3.trans h3⟩
structure RunTo (b : Brd) (N : Nat) : Prop where
  done : ladenL (iterR N b).loads = []
  more : ∀ i, i < N → ladenL (iterR i b).loads ≠ []
theorem run_ex {b : Brd} (O : BrdOk b) {M : Int} (T : Tame b.rows M) (h : b.loads.sum ≤ M) : ∃ N, N ≤ 20000 ∧ RunTo b N := by
  obtain ⟨μ, m1, m2⟩ := tame_mu T
  have key : ∀ k, (∃ N, N ≤ k ∧ RunTo b N) ∨ ((∀ i, i < k → ladenL (iterR i b).loads ≠ []) ∧ μ (iterR k b) + k ≤ μ b) := by
    intro k
    induction k with
    | zero => exact .inr ⟨fun i hi => by omega, Nat.le_refl _⟩
    | succ k ih =>
      rcases ih with ⟨N, h1, h2⟩ | ⟨h1, h2⟩
      · exact .inl ⟨N, by omega, h2⟩
      · by_cases e : ladenL (iterR k b).loads = []
        · exact .inl ⟨k, by omega, e, h1⟩
        · refine .inr ⟨fun i hi => ?_, ?_⟩
          · by_cases e' : i = k
            · rw [e']; exact e
            · exact h1 i (by omega)
          · obtain ⟨O1, r1, _⟩ := O.iter k
            cases q : (ladenL (iterR k b).loads).head? with
            | none => exact absurd (List.head?_eq_none_iff.mp q) e
            | some s =>
              obtain ⟨g1, g2⟩ := laden_mem (List.mem_of_head? q)
              have := m2 (iterR k b) s O1 r1 (by rw [← r1, ← O1.L]; exact g1) g2
              show μ (nxt (iterR k b)) + (k + 1) ≤ μ b
              rw [nxt_some q]
              omega
  have hb := m1 b O rfl h
  rcases key 20001 with ⟨N, h1, h2⟩ | ⟨h1, h2⟩
  · by_cases e : N = 20001
    · rcases key 20000 with ⟨N', g1, g2⟩ | ⟨g1, g2⟩
      · exact ⟨N', g1, g2⟩
      · subst e
        have z := h2.more 20000 (by omega)
        obtain ⟨O1, r1, _⟩ := O.iter 20000
        cases q : (ladenL (iterR 20000 b).loads).head? with
        | none => exact absurd (List.head?_eq_none_iff.mp q) z
        | some s =>
          obtain ⟨k1, k2⟩ := laden_mem (List.mem_of_head? q)
          have := m2 (iterR 20000 b) s O1 r1 (by rw [← r1, ← O1.L]; exact k1) k2
          omega
    · exact ⟨N, by omega, h2⟩
  · omega
end Com
set_option Elab.async false
set_option linter.all false
set_option maxRecDepth 100000
set_option maxHeartbeats 4000000
namespace Com
def qn (u : Nat → Nat) (n : Nat) : Nat → Nat
  | 0 => 1
  | i + 1 => (1 + u (n - 1 - i)) * qn u n i + 1
theorem qn_pos (u : Nat → Nat) (n : Nat) : ∀ i, 1 ≤ qn u n i
  | 0 => Nat.le_refl _
  | i + 1 => by unfold qn; omega
theorem qn_succ (u : Nat → Nat) (n i : Nat) : qn u n i + 1 ≤ qn u n (i + 1) := by
  show _ ≤ (1 + u (n - 1 - i)) * qn u n i + 1
  rw [Nat.add_mul]
  omega
theorem qn_mono (u : Nat → Nat) (n : Nat) {i j : Nat} (h : i ≤ j) : qn u n i ≤ qn u n j := by
  induction j with
  | zero => rw [show i = 0 by omega]; exact Nat.le_refl _
  | succ j ih =>
    by_cases e : i = j + 1
    · rw [e]; exact Nat.le_refl _
    · have := ih (by omega)
      have := qn_succ u n j
      omega
def ups (k : Int) (r : List Int) : Nat := (r.filter fun e => decide (k ≤ e)).length
def sumU (u : Nat → Nat) : Nat → Nat
  | 0 => 0
  | n + 1 => sumU u n + u n
theorem qn_big {u : Nat → Nat} {n : Nat} : ∀ i s, i ≤ n → sumU u (n - i) + s = sumU u n → qn u n i ≤ (i + 1) * 2 ^ s
  | 0, s, _, _ => by show 1 ≤ 1 * 2 ^ s; have := Nat.one_le_two_pow (n := s); omega
  | i + 1, s, hi, hs => by
    have e : n - i = (n - (i + 1)) + 1 := by omega
    have e2 : sumU u (n - i) = sumU u (n - (i + 1)) + u (n - (i + 1)) := by rw [e]; rfl
    have e3 : sumU u (n - i) ≤ sumU u n := by
      have key : ∀ a b, a ≤ b → sumU u a ≤ sumU u b := by
        intro a b h
        induction b with
        | zero => rw [show a = 0 by omega]; exact Nat.le_refl _
        | succ b ih =>
          by_cases z : a = b + 1
          · rw [z]; exact Nat.le_refl _
          · have := ih (by omega)
            show sumU u a ≤ sumU u b + u b
            omega
      exact key _ _ (by omega)
    have ih := qn_big (u := u) (n := n) i (sumU u n - sumU u (n - i)) (by omega) (by omega)
    have e4 : s = u (n - 1 - i) + (sumU u n - sumU u (n - i)) := by
      rw [show n - 1 - i = n - (i + 1) by omega]; omega
    show (1 + u (n - 1 - i)) * qn u n i + 1 ≤ (i + 1 + 1) * 2 ^ s
    rw [e4, Nat.pow_add]
    generalize sumU u n - sumU u (n - i) = s' at ih
    generalize u (n - 1 - i) = v
    have hv : 1 + v ≤ 2 ^ v := by have := Nat.lt_two_pow_self (n := v); omega
    have g1 : (1 + v) * qn u n i ≤ 2 ^ v * ((i + 1) * 2 ^ s') := Nat.mul_le_mul hv ih
    have g2 : 2 ^ v * ((i + 1) * 2 ^ s') = (i + 1) * (2 ^ v * 2 ^ s') := by rw [Nat.mul_left_comm]
    have g3 : 1 ≤ 2 ^ v * 2 ^ s' := Nat.mul_pos Nat.one_le_two_pow Nat.one_le_two_pow
    rw [Nat.add_mul (i + 1) 1]
    omega
theorem drop_lo (g : Int → Int) (k X : Int) : ∀ r : List Int, (∀ e ∈ r, e < k → 0 ≤ g e) → (∀ e ∈ r, k ≤ e → -X ≤ g e) → -((ups k r : Int) * X) ≤ (r.map g).sum
  | [], _, _ => by simp [ups]
  | e :: r, h1, h2 => by
    have ih := drop_lo g k X r (fun x hx => h1 x (List.mem_cons_of_mem _ hx)) (fun x hx => h2 x (List.mem_cons_of_mem _ hx))
    rw [List.map_cons, List.sum_cons]
    by_cases z : k ≤ e
    · have : ups k (e :: r) = ups k r + 1 := by simp [ups, z]
      rw [this, show ((ups k r + 1 : Nat) : Int) = (ups k r : Int) + 1 by omega, Int.add_mul]
      have := h2 e List.mem_cons_self z
      omega
    · have : ups k (e :: r) = ups k r := by unfold ups; rw [List.filter_cons_of_neg (by simpa using z)]
      rw [this]
      have := h1 e List.mem_cons_self (by omega)
      omega
theorem drop_one (g : Int → Int) (k X Y : Int) (hY : 0 ≤ Y) : ∀ r : List Int, (∃ e ∈ r, e < k) → (∀ e ∈ r, e < k → Y ≤ g e) → (∀ e ∈ r, k ≤ e → -X ≤ g e) → Y - (ups k r : Int) * X ≤ (r.map g).sum
  | [], ⟨e, he, _⟩, _, _ => by cases he
  | e :: r, hx, h1, h2 => by
    rw [List.map_cons, List.sum_cons]
    by_cases z : k ≤ e
    · have : ups k (e :: r) = ups k r + 1 := by simp [ups, z]
      rw [this, show ((ups k r + 1 : Nat) : Int) = (ups k r : Int) + 1 by omega, Int.add_mul]
      have ih := drop_one g k X Y hY r (by
        obtain ⟨x, hx, hl⟩ := hx
        rcases List.mem_cons.mp hx with y | y
        · omega
        · exact ⟨x, y, hl⟩) (fun x hx => h1 x (List.mem_cons_of_mem _ hx)) (fun x hx => h2 x (List.mem_cons_of_mem _ hx))
      have := h2 e List.mem_cons_self z
      omega
    · have : ups k (e :: r) = ups k r := by unfold ups; rw [List.filter_cons_of_neg (by simpa using z)]
      rw [this]
      have ih := drop_lo g k X r (fun x hx hl => Int.le_trans hY (h1 x (List.mem_cons_of_mem _ hx) hl)) (fun x hx => h2 x (List.mem_cons_of_mem _ hx))
      have := h1 e List.mem_cons_self (by omega)
      omega
theorem drop_hi (g : Int → Int) (G : Int) (hG : 0 ≤ G) : ∀ r : List Int, (∀ e ∈ r, g e ≤ G) → (r.map g).sum ≤ (r.length : Int) * G
  | [], _ => by simp
  | e :: r, h => by
    have ih := drop_hi g G hG r fun x hx => h x (List.mem_cons_of_mem _ hx)
    have := h e List.mem_cons_self
    rw [List.map_cons, List.sum_cons, List.length_cons, show ((r.length + 1 : Nat) : Int) = (r.length : Int) + 1 by omega, Int.add_mul]
    omega
theorem ups_take (k : Int) (r : List Int) (t : Nat) : ups k (r.take t) ≤ ups k r := ((List.take_sublist t r).filter _).length_le
def Shape (rows : List (List Int)) (u : Nat → Nat) : Prop := ∀ k, k < rows.length → ups (k : Nat) (rows.getD k []) ≤ u k ∧ u k ≤ 3 ∧ ∃ e ∈ rows.getD k [], e < (k : Int)
theorem term_of {n e i : Int} {qn0 qe qi u : Int} (k4 : e < i → (1 + u) * qi + 1 ≤ qe) (k1 : 1 ≤ qe) (k3 : qe ≤ qn0) (k2 : 1 ≤ qi) : (e < i → u * qi ≤ (qn0 - qi) - (qn0 - qe) - 1) ∧ (i ≤ e → -qi ≤ (qn0 - qi) - (qn0 - qe) - 1) ∧ (qn0 - qi) - (qn0 - qe) - 1 ≤ qn0 - 1 := by
  refine ⟨fun h => ?_, fun _ => by omega, by omega⟩
  have := k4 h
  rw [Int.add_mul] at this
  omega
theorem shape_tame {rows : List (List Int)} {u : Nat → Nat} {M : Int} (W : Wf rows) (S : Shape rows u) (hb : (M + 10 * (rows.length : Int)) * ((qn u rows.length rows.length : Int) - 1) ≤ 20000) : Tame rows M := by
  generalize hn : rows.length = n at hb
  have q1 : ∀ i, 1 ≤ qn u n i := qn_pos u n
  have qm : ∀ {i j : Nat}, i ≤ j → qn u n i ≤ qn u n j := fun {i j} h => qn_mono u n h
  have qs : ∀ i, i < n → qn u n (n - 1 - i + 1) = (1 + u i) * qn u n (n - 1 - i) + 1 := fun i hi => by
    show (1 + u (n - 1 - (n - 1 - i))) * qn u n (n - 1 - i) + 1 = _
    rw [show n - 1 - (n - 1 - i) = i by omega]
  have qt : ∀ i, i < n → qn u n (n - 1 - i) + 1 ≤ qn u n n := fun i hi => Nat.le_trans (qn_succ u n (n - 1 - i)) (qm (by omega))
  generalize qn u n = q at q1 qm qs qt hb
  have gn : (1 : Int) ≤ q n := by have := q1 n; omega
  have fk : ∀ i : Nat, (q n : Int) - (q ((n : Int) - 1 - (i : Nat)).toNat : Int) = (q n : Int) - (q (n - 1 - i) : Int) := fun i => by
    rw [show ((n : Int) - 1 - (i : Nat)).toNat = n - 1 - i by omega]
  have hex : ∀ i, i < n → ∀ e ∈ rows.getD i [], -1 ≤ e ∧ e < (n : Int) := fun i hi e he => by
    have := (W.2.2 _ (gD_mem (show i < rows.length by rw [hn]; exact hi))).2.2 e he
    rw [hn] at this
    exact this
  have hlen : ∀ i, i < n → (rows.getD i []).length ≤ 8 := fun i hi => (row_len W (by rw [hn]; exact hi)).2
  have hsh : ∀ i, i < n → ups (i : Nat) (rows.getD i []) ≤ u i ∧ u i ≤ 3 ∧ ∃ e ∈ rows.getD i [], e < (i : Int) := fun i hi => S i (by rw [hn]; exact hi)
  clear S W
  have term : ∀ i, i < n → ∀ e ∈ rows.getD i [], (e < (i : Int) → (u i : Int) * (q (n - 1 - i) : Int) ≤ ((q n : Int) - (q (n - 1 - i) : Int)) - ((q n : Int) - (q ((n : Int) - 1 - e).toNat : Int)) - 1) ∧ (((i : Nat) : Int) ≤ e → -(q (n - 1 - i) : Int) ≤ ((q n : Int) - (q (n - 1 - i) : Int)) - ((q n : Int) - (q ((n : Int) - 1 - e).toNat : Int)) - 1) ∧ ((q n : Int) - (q (n - 1 - i) : Int)) - ((q n : Int) - (q ((n : Int) - 1 - e).toNat : Int)) - 1 ≤ (q n : Int) - 1 := fun i hi e he => by
    obtain ⟨e0, e1⟩ := hex i hi e he
    have k1 := q1 ((n : Int) - 1 - e).toNat
    have k2 := q1 (n - 1 - i)
    have k3 : q ((n : Int) - 1 - e).toNat ≤ q n := qm (by omega)
    refine term_of (n := n) (fun h => ?_) (by omega) (by omega) (by omega)
    have k4 : q (n - 1 - i + 1) ≤ q ((n : Int) - 1 - e).toNat := qm (by omega)
    rw [qs i hi] at k4
    have k5 : (((1 + u i) * q (n - 1 - i) + 1 : Nat) : Int) ≤ (q ((n : Int) - 1 - e).toNat : Int) := Int.ofNat_le.mpr k4
    simpa using k5
  refine ⟨fun e => (q n : Int) - (q ((n : Int) - 1 - e).toNat : Int), (q n : Int) - 1, 3 * ((q n : Int) - 1), 7 * ((q n : Int) - 1), ?_⟩
  refine ⟨?_, fun i hi => ?_, fun i hi => ?_, fun i hi => ?_, fun i hi t ht => ?_, fun i hi t ht => ?_, by omega, ?_⟩
  · show (q n : Int) - (q ((n : Int) - 1 - -1).toNat : Int) = 0
    rw [show ((n : Int) - 1 - -1).toNat = n by omega]
    omega
  · rw [hn] at hi
    rw [fk]
    have := qt i hi
    omega
  · rw [hn] at hi
    rw [fk]
    have := q1 (n - 1 - i)
    omega
  · rw [hn] at hi
    obtain ⟨s1, s2, s3⟩ := hsh i hi
    have z := drop_one (fun e => ((q n : Int) - (q (n - 1 - i) : Int)) - ((q n : Int) - (q ((n : Int) - 1 - e).toNat : Int)) - 1) (i : Nat) (q (n - 1 - i) : Int) ((u i : Int) * (q (n - 1 - i) : Int)) (Int.mul_nonneg (Int.natCast_nonneg _) (Int.natCast_nonneg _)) (rows.getD i []) s3 (fun e he => (term i hi e he).1) (fun e he => (term i hi e he).2.1)
    unfold dropW
    dsimp only
    rw [List.take_length, fk]
    have m : (ups (i : Nat) (rows.getD i []) : Int) * (q (n - 1 - i) : Int) ≤ (u i : Int) * (q (n - 1 - i) : Int) := Int.mul_le_mul_of_nonneg_right (Int.ofNat_le.mpr s1) (Int.natCast_nonneg _)
    exact Int.le_trans (Int.sub_nonneg.mpr m) z
  · rw [hn] at hi
    obtain ⟨s1, s2, s3⟩ := hsh i hi
    have z := drop_lo (fun e => ((q n : Int) - (q (n - 1 - i) : Int)) - ((q n : Int) - (q ((n : Int) - 1 - e).toNat : Int)) - 1) (i : Nat) (q (n - 1 - i) : Int) ((rows.getD i []).take t) (fun e he h => Int.le_trans (Int.mul_nonneg (Int.natCast_nonneg _) (Int.natCast_nonneg _)) ((term i hi e (List.mem_of_mem_take he)).1 h)) (fun e he => (term i hi e (List.mem_of_mem_take he)).2.1)
    have z2 : ups (i : Nat) ((rows.getD i []).take t) ≤ 3 := Nat.le_trans (ups_take (i : Nat) (rows.getD i []) t) (Nat.le_trans s1 s2)
    have z3 := qt i hi
    have m : (ups (i : Nat) ((rows.getD i []).take t) : Int) * (q (n - 1 - i) : Int) ≤ 3 * ((q n : Int) - 1) := Int.mul_le_mul (Int.ofNat_le.mpr z2) (by omega) (Int.natCast_nonneg _) (by decide)
    unfold dropW
    dsimp only
    rw [fk]
    exact Int.le_trans (Int.neg_le_neg m) z
  · rw [hn] at hi
    have hl := hlen i hi
    have z := drop_hi (fun e => ((q n : Int) - (q (n - 1 - i) : Int)) - ((q n : Int) - (q ((n : Int) - 1 - e).toNat : Int)) - 1) ((q n : Int) - 1) (by omega) ((rows.getD i []).take t) (fun e he => (term i hi e (List.mem_of_mem_take he)).2.2)
    rw [List.length_take] at z
    have m : ((min t (rows.getD i []).length : Nat) : Int) * ((q n : Int) - 1) ≤ 7 * ((q n : Int) - 1) := Int.mul_le_mul_of_nonneg_right (by omega) (by omega)
    unfold dropW
    dsimp only
    rw [fk]
    exact Int.le_trans z m
  · rw [hn]
    have e : M * ((q n : Int) - 1) + (n : Int) * (3 * ((q n : Int) - 1) + 7 * ((q n : Int) - 1)) = (M + 10 * (n : Int)) * ((q n : Int) - 1) := by
      rw [← Int.add_mul, Int.add_mul M, ← Int.mul_assoc, Int.mul_comm (n : Int) (3 + 7)]
      rfl
    rw [e]
    exact hb
theorem tame_big {rows : List (List Int)} {u : Nat → Nat} (W : Wf rows) (S : Shape rows u) (hu : sumU u rows.length ≤ 3) : Tame rows 30 := by
  refine shape_tame W S ?_
  have h := qn_big (u := u) (n := rows.length) rows.length (sumU u rows.length) (Nat.le_refl _) (by simp [sumU])
  have hn := W.2.1
  have hp := qn_pos u rows.length rows.length
  have h2 : (2 : Nat) ^ sumU u rows.length ≤ 2 ^ 3 := Nat.pow_le_pow_right (by decide) hu
  have h3 : (rows.length + 1) * 2 ^ sumU u rows.length ≤ 13 * 8 := Nat.mul_le_mul (by omega) h2
  exact Int.le_trans (Int.mul_le_mul (show (30 : Int) + 10 * (rows.length : Int) ≤ 150 by omega) (show (qn u rows.length rows.length : Int) - 1 ≤ 103 by omega) (by omega) (by decide)) (by decide)
end Com
set_option Elab.async false
set_option linter.all false
set_option maxRecDepth 100000
set_option maxHeartbeats 4000000
namespace Com
theorem list_ext {l l' : List Int} (h : l.length = l'.length) (g : ∀ i, i < l.length → l.getD i 0 = l'.getD i 0) : l = l' := by
  refine List.ext_getElem h fun i h1 h2 => ?_
  have := g i h1
  rw [List.getD_eq_getElem?_getD, List.getD_eq_getElem?_getD, List.getElem?_eq_getElem h1, List.getElem?_eq_getElem h2] at this
  exact this
theorem brd_ext {b b' : Brd} (h1 : b.rows = b'.rows) (h2 : b.turns = b'.turns) (h3 : b.loads = b'.loads) (h4 : b.steps = b'.steps) (h5 : b.taken = b'.taken) : b = b' := by
  cases b; cases b'
  simp only at h1 h2 h3 h4 h5
  subst h1 h2 h3 h4 h5
  rfl
end Com
set_option Elab.async false
set_option linter.all false
set_option maxRecDepth 100000
set_option maxHeartbeats 4000000
namespace Com
end Com
set_option Elab.async false
set_option linter.all false
set_option maxRecDepth 100000
set_option maxHeartbeats 4000000
namespace Com
open PySem L2
section
variable (rows : List (List Int)) (st : Int)
def ring (ts : List Int) (z : Int) : Int := if z = -1 then st else lastx (rows.getD z.toNat []) (ts.getD z.toNat 0)
def goR (ts : List Int) : Nat → Int → Int
  | 0, z => z
  | k + 1, z => ring rows st ts (goR ts k z)
def Uni (ts : List Int) (x : Int) : Prop := ∀ z : Int, -1 ≤ z → z < (rows.length : Int) → ∃ k, goR rows st ts k z = x
end
section
variable {rows : List (List Int)} {st : Int}
theorem goR_add {ts : List Int} (j : Nat) : ∀ (k : Nat) (z : Int), goR rows st ts (j + k) z = goR rows st ts k (goR rows st ts j z)
  | 0, z => rfl
  | k + 1, z => by
    show ring rows st ts (goR rows st ts (j + k) z) = ring rows st ts (goR rows st ts k (goR rows st ts j z))
    rw [goR_add j k z]
theorem goR_in {ts : List Int} (k : Nat) (z : Int) : goR rows st ts (k + 1) z = goR rows st ts k (ring rows st ts z) := by
  rw [show k + 1 = 1 + k by omega, goR_add 1 k z]
  rfl
theorem ring_in {ts : List Int} (W : Wf rows) (hT : TurnsOk rows ts) (h0 : 0 ≤ st) (h1 : st < (rows.length : Int)) {z : Int} (z0 : -1 ≤ z) (z1 : z < (rows.length : Int)) : -1 ≤ ring rows st ts z ∧ ring rows st ts z < (rows.length : Int) := by
  unfold ring
  split
  · exact ⟨by omega, h1⟩
  · exact last_in W hT (by omega)
theorem goR_bd {ts : List Int} (W : Wf rows) (hT : TurnsOk rows ts) (h0 : 0 ≤ st) (h1 : st < (rows.length : Int)) : ∀ (k : Nat) {z : Int}, -1 ≤ z → z < (rows.length : Int) → -1 ≤ goR rows st ts k z ∧ goR rows st ts k z < (rows.length : Int)
  | 0, z, a, b => ⟨a, b⟩
  | k + 1, z, a, b => by
    obtain ⟨c, d⟩ := goR_bd W hT h0 h1 k a b
    exact ring_in W hT h0 h1 c d
theorem least_ex {P : Nat → Prop} (h : ∃ k, P k) : ∃ k, P k ∧ ∀ j, j < k → ¬ P j := by
  obtain ⟨k, hk⟩ := h
  induction k using Nat.strongRecOn with
  | _ k ih =>
    by_cases h : ∃ j, j < k ∧ P j
    · obtain ⟨j, hj, pj⟩ := h
      exact ih j hj pj
    · exact ⟨k, hk, fun j hj pj => h ⟨j, hj, pj⟩⟩
theorem goR_same {ts us : List Int} {p : Int} (h : ∀ z, -1 ≤ z → z ≠ p → ring rows st us z = ring rows st ts z) : ∀ (K : Nat) {z : Int}, (∀ j, -1 ≤ goR rows st ts j z) → (∀ j, j < K → goR rows st ts j z ≠ p) → goR rows st us K z = goR rows st ts K z
  | 0, z, _, _ => rfl
  | K + 1, z, hb, hj => by
    show ring rows st us (goR rows st us K z) = ring rows st ts (goR rows st ts K z)
    rw [goR_same h K hb fun j hk => hj j (by omega)]
    exact h _ (hb K) (hj K (by omega))
theorem uni_move {ts us : List Int} {p : Int} (h : ∀ z, -1 ≤ z → z ≠ p → ring rows st us z = ring rows st ts z) {z : Int} (hb : ∀ j, -1 ≤ goR rows st ts j z) (hz : ∃ k, goR rows st ts k z = p) : ∃ k, goR rows st us k z = p := by
  obtain ⟨k, e, l⟩ := least_ex hz
  exact ⟨k, by rw [goR_same h k hb l]; exact e⟩
structure Ahead (rows : List (List Int)) (st : Int) (ts : List Int) (x : Int) (m : Nat) : Prop where
  back : goR rows st ts (m + 1) x = x
  first : ∀ j, j < m → goR rows st ts (j + 1) x ≠ x
theorem ahead_ex {ts : List Int} {x : Int} (U : Uni rows st ts x) (h0 : -1 ≤ ring rows st ts x) (h1 : ring rows st ts x < (rows.length : Int)) : ∃ m, Ahead rows st ts x m := by
  obtain ⟨k, e⟩ := U _ h0 h1
  obtain ⟨m, a, b⟩ := least_ex (P := fun m => goR rows st ts (m + 1) x = x) ⟨k, by rw [goR_in]; exact e⟩
  exact ⟨m, a, b⟩
end
def prevT (rows : List (List Int)) (ts : List Int) (s : Nat) : List Int := ts.set s ((ts.getD s 0 - 1) % ((rows.getD s []).length : Int))
theorem prevT_ok {rows : List (List Int)} {ts : List Int} (W : Wf rows) (T : TurnsOk rows ts) {s : Nat} (h : s < rows.length) : TurnsOk rows (prevT rows ts s) := by
  refine ⟨by unfold prevT; rw [List.length_set]; exact T.1, fun i hi => ?_⟩
  unfold prevT
  by_cases e : s = i
  · subst e
    rw [gD_set_self (by rw [T.1]; exact h)]
    have := (row_len W h).1
    exact ⟨Int.emod_nonneg _ (by omega), Int.emod_lt_of_pos _ (by omega)⟩
  · rw [gD_set_ne e]
    exact T.2 i hi
theorem lastx_eq {r : List Int} {t : Int} (h0 : 0 ≤ t) (h1 : t < (r.length : Int)) : lastx r t = r.getD ((t - 1) % (r.length : Int)).toNat 0 := by
  unfold lastx atI ixN
  by_cases h : 0 ≤ t - 1
  · rw [if_pos h, if_pos (by omega), Int.emod_eq_of_lt h (by omega), List.getD_eq_getElem?_getD]
    rfl
  · have e : t = 0 := by omega
    subst e
    rw [if_neg (by omega), if_pos (by omega)]
    have e2 : ((0 : Int) - 1) % (r.length : Int) = (0 - 1 + (r.length : Int)) := by
      rw [← Int.add_emod_right]
      exact Int.emod_eq_of_lt (by omega) (by omega)
    rw [e2, List.getD_eq_getElem?_getD]
    rfl
theorem exit_prev {rows : List (List Int)} {ts : List Int} (T : TurnsOk rows ts) {s : Nat} (h : s < rows.length) : exitOf rows (prevT rows ts s) s = lastx (rows.getD s []) (ts.getD s 0) := by
  obtain ⟨t0, t1⟩ := T.2 s h
  unfold exitOf prevT
  rw [gD_set_self (by rw [T.1]; exact h), lastx_eq t0 t1]
theorem next_prev {rows : List (List Int)} {ts : List Int} (W : Wf rows) (T : TurnsOk rows ts) {s : Nat} (h : s < rows.length) : nextT rows (prevT rows ts s) s = ts := by
  obtain ⟨t0, t1⟩ := T.2 s h
  have hl := (row_len W h).1
  unfold nextT prevT
  rw [gD_set_self (by rw [T.1]; exact h), List.set_set]
  have e : ((ts.getD s 0 - 1) % ((rows.getD s []).length : Int) + 1) % ((rows.getD s []).length : Int) = ts.getD s 0 := by
    rw [Int.emod_add_emod, show ts.getD s 0 - 1 + 1 = ts.getD s 0 by omega]
    exact Int.emod_eq_of_lt t0 t1
  rw [e]
  refine list_ext (by simp) fun i hi => ?_
  by_cases z : s = i
  · subst z; rw [gD_set_self (by rw [T.1]; exact h)]
  · rw [gD_set_ne z]
theorem ring_set {rows : List (List Int)} {st : Int} {ts : List Int} {s : Nat} {v : Int} {z : Int} (hz : z ≠ (s : Int)) (hz0 : -1 ≤ z) : ring rows st (ts.set s v) z = ring rows st ts z := by
  unfold ring
  by_cases h : z = -1
  · rw [if_pos h, if_pos h]
  · rw [if_neg h, if_neg h, gD_set_ne (by omega)]
section
variable {rows : List (List Int)} {st : Int} {ts : List Int} {x : Int}
theorem back_step (W : Wf rows) (T : TurnsOk rows ts) (h0 : 0 ≤ st) (h1 : st < (rows.length : Int)) (U : Uni rows st ts x) {m : Nat} {s : Nat} (hs : s < rows.length) (e : goR rows st ts m x = (s : Int)) : Uni rows st (prevT rows ts s) (s : Int) := fun z z0 z1 => by
  obtain ⟨k, ek⟩ := U z z0 z1
  refine uni_move (ts := ts) (fun y y0 hy => ring_set hy y0) (fun j => (goR_bd W T h0 h1 j z0 z1).1) ⟨k + m, ?_⟩
  rw [goR_add, ek, e]
theorem walk_goR : ∀ (k : Nat) {z : Int}, (∀ j, j ≤ k → -1 ≤ goR rows st ts j z) → (∀ j, j < k → goR rows st ts j z ≠ -1) → walkN rows ts k z = goR rows st ts k z
  | 0, z, _, _ => rfl
  | k + 1, z, hb, hj => by
    show goOn rows ts (walkN rows ts k z) = ring rows st ts (goR rows st ts k z)
    rw [walk_goR k (fun j h => hb j (by omega)) fun j h => hj j (by omega)]
    have h1 := hj k (by omega)
    have h2 := hb k (by omega)
    unfold goOn ring
    rw [if_pos (by omega), if_neg h1]
theorem uni_tree (W : Wf rows) (T : TurnsOk rows ts) (h0 : 0 ≤ st) (h1 : st < (rows.length : Int)) (U : Uni rows st ts (-1)) : treeB rows ts = true := by
  rw [tree_all W T]
  intro i hi
  rw [tree_walk W T hi]
  obtain ⟨k, e, l⟩ := least_ex (U (i : Int) (by omega) (by omega))
  have hw := walk_goR (rows := rows) (st := st) (ts := ts) k (z := (i : Int)) (fun j _ => (goR_bd W T h0 h1 j (by omega) (by omega)).1) l
  have hlt : walkN rows ts k (i : Int) < 0 := by rw [hw, e]; decide
  rw [walk_rch W T k _ (by omega) (by omega)] at hlt
  rcases hlt with z | ⟨_, z⟩
  · omega
  · rw [Int.toNat_natCast] at z
    exact rch_of z
theorem tree_uni (W : Wf rows) (T : TurnsOk rows ts) (h0 : 0 ≤ st) (h1 : st < (rows.length : Int)) (h : treeB rows ts = true) : Uni rows st ts (-1) := fun z z0 z1 => by
  by_cases hz : z = -1
  · exact ⟨0, hz⟩
  · have hw := (tree_all W T).mp h z.toNat (by omega)
    rw [show ((z.toNat : Nat) : Int) = z by omega] at hw
    obtain ⟨k, e, l⟩ := least_ex (P := fun k => walkN rows ts k z < 0) ⟨_, hw⟩
    have key : ∀ j, j ≤ k → goR rows st ts j z = walkN rows ts j z := by
      intro j
      induction j with
      | zero => intro _; rfl
      | succ j ih =>
        intro hj
        have hn := l j (by omega)
        show ring rows st ts (goR rows st ts j z) = goOn rows ts (walkN rows ts j z)
        rw [ih (by omega)]
        unfold ring goOn
        rw [if_neg (by omega), if_pos (by omega)]
    refine ⟨k, ?_⟩
    rw [key k (Nat.le_refl _)]
    have := (walk_bd W T k z z0 z1).1
    omega
theorem start_tree (W : Wf rows) (T : TurnsOk rows ts) (h0 : 0 ≤ st) (h1 : st < (rows.length : Int)) (U : Uni rows st ts x) {m : Nat} (e : goR rows st ts m x = -1) : treeB rows ts = true :=
  uni_tree W T h0 h1 fun z z0 z1 => by
    obtain ⟨k, ek⟩ := U z z0 z1
    exact ⟨k + m, by rw [goR_add, ek, e]⟩
end
inductive Bk (rows : List (List Int)) (st : Int) (t0 : List Int) : Nat → List Int → Int → Prop
  | zero : Bk rows st t0 0 t0 (-1)
  | step {k : Nat} {T : List Int} {x : Int} {m s : Nat} : Bk rows st t0 k T x → Ahead rows st T x m → goR rows st T m x = (s : Int) → s < rows.length → Bk rows st t0 (k + 1) (prevT rows T s) (s : Int)
theorem Bk.ok {rows : List (List Int)} {st : Int} {t0 : List Int} (W : Wf rows) (T0 : TurnsOk rows t0) (h0 : 0 ≤ st) (h1 : st < (rows.length : Int)) (ht : treeB rows t0 = true) {k : Nat} {T : List Int} {x : Int} (B : Bk rows st t0 k T x) : TurnsOk rows T ∧ Uni rows st T x ∧ -1 ≤ x ∧ x < (rows.length : Int) := by
  induction B with
  | zero => exact ⟨T0, tree_uni W T0 h0 h1 ht, by omega, by omega⟩
  | step _ A e hs ih =>
    obtain ⟨T1, U1, _, _⟩ := ih
    exact ⟨prevT_ok W T1 hs, back_step W T1 h0 h1 U1 hs e, by omega, by omega⟩
def oneB (rows : List (List Int)) (T : List Int) (x : Int) (s : List Int) (w : Int) : Brd := ⟨rows, T, (if x = -1 then List.replicate rows.length 0 else (List.replicate rows.length 0).set x.toNat 1), s, (if x = -1 then w + 1 else w)⟩
theorem rep_get (n i : Nat) : (List.replicate n (0 : Int)).getD i 0 = 0 := by
  rw [List.getD_eq_getElem?_getD, List.getElem?_replicate]
  split <;> rfl
theorem one_ok {rows : List (List Int)} {T : List Int} {x : Int} {s : List Int} {w : Int} (W : Wf rows) (hT : TurnsOk rows T) (hs : s.length = rows.length) : BrdOk (oneB rows T x s w) := by
  refine ⟨W, hT, ?_, hs, fun i => ?_⟩
  · show (if x = -1 then _ else _ : List Int).length = rows.length
    split <;> simp
  · show 0 ≤ (if x = -1 then List.replicate rows.length 0 else (List.replicate rows.length 0).set x.toNat 1 : List Int).getD i 0
    split
    · rw [rep_get]; exact Int.le_refl _
    · by_cases e : x.toNat = i
      · subst e
        by_cases h : x.toNat < (List.replicate rows.length (0 : Int)).length
        · rw [gD_set_self h]; decide
        · rw [List.set_eq_of_length_le (by omega), rep_get]; exact Int.le_refl _
      · rw [gD_set_ne e, rep_get]; exact Int.le_refl _
theorem one_pit {rows : List (List Int)} {T s : List Int} {w : Int} : ladenL (oneB rows T (-1) s w).loads = [] := laden_none fun i _ => by
  show (if (-1 : Int) = -1 then List.replicate rows.length 0 else (List.replicate rows.length 0).set (-1 : Int).toNat 1 : List Int).getD i 0 ≤ 0
  rw [if_pos rfl, rep_get]
  exact Int.le_refl _
theorem one_head {rows : List (List Int)} {T s : List Int} {w : Int} {p : Nat} (hp : p < rows.length) : (ladenL (oneB rows T (p : Int) s w).loads).head? = some p := by
  have e : (oneB rows T (p : Int) s w).loads = (List.replicate rows.length 0).set p 1 := by
    unfold oneB
    dsimp only
    rw [if_neg (by omega), Int.toNat_natCast]
  rw [e]
  refine head_laden (by simpa using hp) (by rw [gD_set_self (by simpa using hp)]; decide) fun i hi => ?_
  rw [gD_set_ne (by omega), rep_get]
  exact Int.le_refl _
theorem one_step {rows : List (List Int)} {T s : List Int} {w : Int} {p : Nat} (W : Wf rows) (hT : TurnsOk rows T) (hp : p < rows.length) : stepB (oneB rows T (p : Int) s w) p = oneB rows (nextT rows T p) (exitOf rows T p) (s.set p (s.getD p 0 + 1)) w := by
  have e : (oneB rows T (p : Int) s w).loads = (List.replicate rows.length 0).set p 1 := by
    unfold oneB
    dsimp only
    rw [if_neg (by omega), Int.toNat_natCast]
  have ew : (oneB rows T (p : Int) s w).taken = w := by
    unfold oneB
    dsimp only
    rw [if_neg (by omega)]
  have hl : p < (List.replicate rows.length (0 : Int)).length := by simpa using hp
  have e1 : ((List.replicate rows.length (0 : Int)).set p 1).set p (((List.replicate rows.length (0 : Int)).set p 1).getD p 0 - 1) = List.replicate rows.length 0 := by
    rw [gD_set_self hl, List.set_set]
    refine list_ext (by simp) fun i hi => ?_
    by_cases z : p = i
    · subst z; rw [gD_set_self hl, rep_get]; rfl
    · rw [gD_set_ne z]
  refine brd_ext rfl rfl ?_ rfl ?_
  · show moveL (oneB rows T (p : Int) s w).loads p (exitOf rows T p) = (if exitOf rows T p = -1 then List.replicate rows.length 0 else (List.replicate rows.length 0).set (exitOf rows T p).toNat 1)
    rw [e]
    unfold moveL
    rw [e1, rep_get]
    rfl
  · show moveT (oneB rows T (p : Int) s w).taken (exitOf rows T p) = (if exitOf rows T p = -1 then w + 1 else w)
    rw [ew]
    rfl
theorem iter_in : ∀ (k : Nat) (b : Brd), iterR (k + 1) b = iterR k (nxt b)
  | 0, b => rfl
  | k + 1, b => by
    show nxt (iterR (k + 1) b) = nxt (iterR k (nxt b))
    rw [iter_in k b]
theorem run_uniq {b : Brd} {N N' : Nat} (A : RunTo b N) (B : RunTo b N') : N = N' := by
  by_cases h : N < N'
  · exact absurd A.done (B.more N h)
  · by_cases h' : N' < N
    · exact absurd B.done (A.more N' h')
    · omega
theorem bk_run {rows : List (List Int)} {st : Int} {t0 : List Int} (W : Wf rows) (T0 : TurnsOk rows t0) (h0 : 0 ≤ st) (h1 : st < (rows.length : Int)) (ht : treeB rows t0 = true) {k : Nat} {T : List Int} {x : Int} (B : Bk rows st t0 k T x) : ∀ (s : List Int) (w : Int), s.length = rows.length → RunTo (oneB rows T x s w) k ∧ ∃ s', s'.length = rows.length ∧ iterR k (oneB rows T x s w) = oneB rows t0 (-1) s' w := by
  induction B with
  | zero => exact fun s w hs => ⟨⟨one_pit, fun i hi => by omega⟩, s, hs, rfl⟩
  | @step k T x m p Bp A e hp ih =>
    intro s w hs
    obtain ⟨T1, U1, _, _⟩ := Bp.ok W T0 h0 h1 ht
    have hx : exitOf rows (prevT rows T p) p = x := by
      rw [exit_prev T1 hp]
      have := A.back
      have e2 : ring rows st T (goR rows st T m x) = x := this
      rw [e] at e2
      unfold ring at e2
      rw [if_neg (by omega), Int.toNat_natCast] at e2
      exact e2
    have hn : nxt (oneB rows (prevT rows T p) (p : Int) s w) = oneB rows T x (s.set p (s.getD p 0 + 1)) w := by
      rw [nxt_some (one_head hp), one_step W (prevT_ok W T1 hp) hp, next_prev W T1 hp, hx]
    obtain ⟨RT, s', hs', e'⟩ := ih (s.set p (s.getD p 0 + 1)) w (by rw [List.length_set]; exact hs)
    refine ⟨⟨by rw [iter_in, hn]; exact RT.done, fun i hi => ?_⟩, s', hs', by rw [iter_in, hn]; exact e'⟩
    cases i with
    | zero =>
      intro z
      have := one_head (T := prevT rows T p) (s := s) (w := w) hp
      rw [show ladenL (oneB rows (prevT rows T p) (p : Int) s w).loads = [] from z] at this
      cases this
    | succ i =>
      rw [iter_in, hn]
      exact RT.more i (by omega)
theorem bk_le {rows : List (List Int)} {st : Int} {t0 : List Int} {M : Int} (W : Wf rows) (T0 : TurnsOk rows t0) (h0 : 0 ≤ st) (h1 : st < (rows.length : Int)) (ht : treeB rows t0 = true) (tm : Tame rows M) (hM : 1 ≤ M) {k : Nat} {T : List Int} {x : Int} (B : Bk rows st t0 k T x) : k ≤ 20000 := by
  obtain ⟨T1, U1, _, hx1⟩ := B.ok W T0 h0 h1 ht
  have O := one_ok (x := x) (s := List.replicate rows.length 0) (w := 0) W T1 (by simp)
  obtain ⟨RT, _⟩ := bk_run W T0 h0 h1 ht B (List.replicate rows.length 0) 0 (by simp)
  have hrs : ∀ n : Nat, (List.replicate n (0 : Int)).sum = 0 := fun n => by
    induction n with
    | zero => rfl
    | succ m ih => rw [List.replicate_succ, List.sum_cons, ih]; rfl
  obtain ⟨N, hN, RT'⟩ := run_ex O tm (by
    show (if x = -1 then List.replicate rows.length 0 else (List.replicate rows.length 0).set x.toNat 1 : List Int).sum ≤ M
    split
    · rw [hrs]; omega
    · by_cases h : x.toNat < (List.replicate rows.length (0 : Int)).length
      · rw [sum_set h, hrs, rep_get]; omega
      · rw [List.set_eq_of_length_le (by omega), hrs]; omega)
  rw [run_uniq RT RT']
  exact hN
theorem bk_end {rows : List (List Int)} {st : Int} {t0 : List Int} (W : Wf rows) (T0 : TurnsOk rows t0) (h0 : 0 ≤ st) (h1 : st < (rows.length : Int)) (ht : treeB rows t0 = true) {k : Nat} {T : List Int} {x : Int} (B : Bk rows st t0 k T x) {m : Nat} (A : Ahead rows st T x m) (e : goR rows st T m x = -1) : x = st ∧ treeB rows T = true := by
  obtain ⟨T1, U1, _, _⟩ := B.ok W T0 h0 h1 ht
  refine ⟨?_, start_tree W T1 h0 h1 U1 e⟩
  have e2 : ring rows st T (goR rows st T m x) = x := A.back
  rw [e] at e2
  unfold ring at e2
  rw [if_pos rfl] at e2
  exact e2.symm
end Com
set_option Elab.async false
set_option linter.all false
set_option maxRecDepth 100000
set_option maxHeartbeats 4000000
namespace Com
open PySem L2
def numS (i : Int) : Str := Str.ofString (toString i)
def wordS (e : Int) : Str := if e = -1 then Str.ofString "pit" else numS e
def lineW (t l s : Int) (r : List Int) : List Str := [numS t, numS l, numS s] ++ [Str.ofString ">"] ++ r.map wordS
def headS (w : Int) : Str := Str.ofString "board" ++ Str.ofString " " ++ numS w
def Sm (i : Int) : Prop := i.natAbs < 10 ^ 30
theorem numS_len {i : Int} (h : Sm i) : (numS i).length ≤ 31 := by
  unfold numS
  rw [PySem.ofString_length]
  exact int_text_length_le10 (by decide) h
theorem Sm.log {i : Int} (h : Sm i) : i.natAbs.log2 < 1920 := by
  by_cases h0 : i.natAbs = 0
  · rw [h0]; decide
  · refine (Nat.log2_lt h0).mpr (Nat.lt_of_lt_of_le h ?_)
    decide +kernel
theorem sm_of {i : Int} (h : -1000000 ≤ i) (h2 : i ≤ 1000000) : Sm i := by
  show i.natAbs < 1000000000000000000000000000000
  omega
theorem head_len {w : Int} (h : Sm w) : (headS w).length ≤ 40 := by
  unfold headS
  rw [Str.length_append, Str.length_append]
  have := numS_len h
  have e : (Str.ofString " ").length = 1 := by decide +kernel
  have e2 : (Str.ofString "board").length = 5 := by decide +kernel
  omega
theorem size_of {n : Nat} (h : n ≤ 1000000) : n ≤ sizeLine := Nat.le_trans h (by decide +kernel)
end Com
set_option Elab.async false
set_option linter.all false
set_option maxRecDepth 100000
set_option maxHeartbeats 4000000
namespace L2
open PySem PySem.Spec PyProof.Rows
section
variable {X : Cx} {K : PySem.W.Frag}
def Its (x : Str) : It := ⟨fun i _ => i < x.length, fun i H v H' => H' = H ∧ ∃ c, x.cps[i]? = some c ∧ v = .str ⟨#[c]⟩, fun i _ => x.length ≤ i⟩
theorem turn_str {P : Program} {w : World} {tg : Expr} (x : Str) (t : Tok) (it : Addr) : Turn P w K tg (Its x) [it] it (fun i h => h.IsStrIter it "str_ascii_iterator" x t i) where
  mem := by simp
  obj := fun i h st b hb => by
    have e : b = it := by simpa using hb
    subst e
    obtain ⟨o, e, c, d⟩ := st
    exact ⟨o, e, fun v z => by rw [d] at z; cases z⟩
  keep := fun i h h' st k => by
    obtain ⟨o, e, r⟩ := st
    exact ⟨o, k it (by simp) o e, r⟩
  item := by
    intro X hP hw hK hc i pins s σ H E I hf st hg
    subst hP hw hK
    have hi : i < x.cps.size := hg
    obtain ⟨f0, f1, f2, f3, f4, f5⟩ := hf it (by simp)
    refine wpAny_pyNext_ascii_item st (c := x.cps[i]) (by simp [hi]) fun h' st' sb => ?_
    have I1 : Inv X pins σ H { s with heap := h', toks := s.toks + 1 } := I.turned (t' := s.toks + 1) (fun b o hb e => (sb.2 b hb).trans e) f0 f1 f3 f4 f5
    obtain ⟨o, e, c, d⟩ := id st'
    exact ⟨_, rfl, go_of (s := { s with heap := h', toks := s.toks + 1 }) e c d (by decide) ⟨.str ⟨#[x.cps[i]]⟩, H, I1, ⟨_, rfl⟩, ⟨rfl, _, by simp [hi], rfl⟩, st', fun b hb => (hf b hb).1⟩⟩
  done := by
    intro X hP hw hK hc i pins s σ H E I hf st hg
    subst hP hw hK
    have hi : x.cps.size ≤ i := hg
    obtain ⟨f0, f1, f2, f3, f4, f5⟩ := hf it (by simp)
    exact wpAny_pyNext_ascii_end (I.ok.hd hc) st (by simp [hi]) fun h' eb => ⟨rfl, I.turned (t' := s.toks) (fun b o hb e => eb b o hb e) f0 f1 f3 f4 f5⟩
  self := fun _ _ _ _ _ st h => wpAny_pyIter_striter_ascii st h
def iStr (tl : TE) : TI := fun σ H R => tl σ H fun x H1 => ∃ z : Str, x = .str z ∧ z.cps.all (· < 128) = true ∧ R (Its z) H1
theorem pi_str {tg l : Expr} {tl : TE} (hl : PE X l tl) : PI X tg l (iStr tl) := by
  intro pins s σ H R I h
  refine thn (hl pins s σ H _ I h) fun v s1 ⟨x, H1, I1, r1, q1⟩ => ?_
  obtain ⟨z, e, ha, q⟩ := q1
  subst e
  obtain ⟨t, rfl⟩ := r1
  refine wpAny_pyIter_ascii ha ?_
  refine ⟨s1.heap.objs.size, [s1.heap.objs.size], _, _, H1, rfl, I1.kept (t' := s1.toks) fun b o e => Heap.get?_push_of_some _ e, turn_str z t _, ⟨_, Heap.get?_push_size _ rfl, rfl, rfl⟩, fun b hb => ?_, q⟩
  have e : b = s1.heap.objs.size := by simpa using hb
  subst e
  exact I1.fpOk (Nat.le_refl _) (I1.hok.fresh (Nat.le_refl _))
def signsV (z : Str) : List V := z.cps.toList.map fun c => V.str ⟨#[c]⟩
theorem wk_str {z : Str} {H : Hp} : Wk (Its z) (signsV z) H where
  go := fun i H3 s hi => by
    show i < z.cps.size
    simpa [signsV] using hi
  yl := fun i H3 x H' s hi y => by
    obtain ⟨e, c, hc, rfl⟩ := y
    refine ⟨e, ?_⟩
    rw [signsV, List.getElem?_map]
    have : z.cps.toList[i]? = some c := by simpa using hc
    rw [this]
    rfl
  st := fun H3 s => by
    show z.cps.size ≤ _
    simp [signsV]
theorem call_int_str : CallR X (.type "int") (fun xs H Q => ∃ z n, xs = [.str z] ∧ PySem.intText? z = some n ∧ z.length ≤ 640 ∧ Q (.int n) H) := by
  intro pins s σ H xs us Q I r h
  obtain ⟨z, n, rfl, hn, hl, q⟩ := h
  obtain ⟨u, rfl, ru⟩ := vals1 r
  obtain ⟨t, rfl⟩ := ru
  exact PySem.W.KIN.call_text hn hl ⟨.int n, H, I.tok _, ⟨_, rfl⟩, q⟩
theorem vals_strs : ∀ (l : List (Str × Tok)), Vals ((l.map (·.1)).map V.str) (strValues l)
  | [] => .nil
  | (x, t) :: l => .cons ⟨t, rfl⟩ (vals_strs l)
def rSplit : V → List V → Hp → VK → Prop := fun x xs H Q => ∃ (z : Str) (c : Nat), x = .str z ∧ xs = [.str ⟨#[c]⟩] ∧ z.length + 2 ≤ sizeLine ∧ ∀ l, H l = none → Q (.ref l) (upd H l (.lst ((Txt.split z ⟨#[c]⟩).map V.str)))
theorem mt_split : MtR X "str.split" rSplit := by
  intro pins s σ H x xs v us Q I rx rs h
  obtain ⟨z, c, rfl, rfl, hz, q⟩ := h
  obtain ⟨t, rfl⟩ := rx
  obtain ⟨u, rfl, ru⟩ := vals1 rs
  obtain ⟨t', rfl⟩ := ru
  have hle : (Txt.split z ⟨#[c]⟩).length ≤ sizeLine := Nat.le_trans (split_le z ⟨#[c]⟩) hz
  have fin : ∀ (l : List (Str × Tok)) (k : Nat), l.map (·.1) = Txt.split z ⟨#[c]⟩ → EP X pins σ Q (.ref s.heap.objs.size) { s with toks := k, heap := s.heap.push { cls := .type "list", data := .seq (strValues l).toArray } } := fun l k e => by
    refine ⟨.ref s.heap.objs.size, _, I.laid (t' := k) (fun b o g => Heap.get?_push_of_some _ g) (Nat.le_refl _) (show ObjOk X.prog X.w _ _ _ (.lst ((Txt.split z ⟨#[c]⟩).map V.str)) from ⟨by rw [List.length_map]; exact hle, strValues l, _, by rw [← e]; exact vals_strs l, Heap.get?_push_size _ rfl⟩), rfl, q _ (I.hok.fresh (Nat.le_refl _))⟩
  have hy : ((⟨#[c]⟩ : Str).length == 0) = false := rfl
  cases h1 : (decide (z.length < (⟨#[c]⟩ : Str).length) || decide (Builtin.Str.strKind z < Builtin.Str.strKind ⟨#[c]⟩))
  · cases hf : (Builtin.Str.occurrences z ⟨#[c]⟩ 0 z.length (z.length + 1)).isEmpty
    · have es : Txt.split z ⟨#[c]⟩ = Builtin.Str.partsBetween z (Builtin.Str.occurrences z ⟨#[c]⟩ 0 z.length (z.length + 1)) (⟨#[c]⟩ : Str).length := by
        unfold Txt.split
        rw [h1, hf]
        rfl
      refine call_meets F.slot_str_split (typeIs_str _ _ _) F.entry_str_split (F.args_str_split_2 _ _) (meets_str_split_sep z ⟨#[c]⟩ t t' h1 hy hf (by omega) (by rw [← es]; exact hle)) ?_
      have f := fun k => fin (numbered s.toks (Builtin.Str.partsBetween z (Builtin.Str.occurrences z ⟨#[c]⟩ 0 z.length (z.length + 1)) (⟨#[c]⟩ : Str).length)) k ((numbered_texts _ _).trans es.symm)
      rw [← strsFrom_eq] at f
      exact f _
    · refine call_meets F.slot_str_split (typeIs_str _ _ _) F.entry_str_split (F.args_str_split_2 _ _) (meets_str_split_not_found z ⟨#[c]⟩ t t' h1 hy hf) ?_
      exact fin [(z, t)] _ (by unfold Txt.split; rw [h1, hf]; rfl)
  · refine call_meets F.slot_str_split (typeIs_str _ _ _) F.entry_str_split (F.args_str_split_2 _ _) (meets_str_split_cannot_occur z ⟨#[c]⟩ t t' h1) ?_
    exact fin [(z, t)] _ (by unfold Txt.split; rw [h1]; rfl)
end
end L2
namespace Com
open PySem L2
theorem cps_join (c : Nat) (x y : Str) (r : List Str) : (Str.join ⟨#[c]⟩ (x :: y :: r)).cps.toList = x.cps.toList ++ c :: (Str.join ⟨#[c]⟩ (y :: r)).cps.toList := by
  show (x ++ (⟨#[c]⟩ : Str) ++ Str.join ⟨#[c]⟩ (y :: r)).cps.toList = _
  simp only [Str.cps_append, Array.toList_append]
  simp
theorem cut_inj {c : Nat} : ∀ {p q r r' : List Nat}, c ∉ p → c ∉ q → p ++ c :: r = q ++ c :: r' → p = q ∧ r = r'
  | [], [], r, r', _, _, h => ⟨rfl, by simpa using h⟩
  | [], y :: q, r, r', _, hq, h => absurd (by simp at h; rw [h.1]; exact List.mem_cons_self) hq
  | x :: p, [], r, r', hp, _, h => absurd (by simp at h; rw [h.1]; exact List.mem_cons_self) hp
  | x :: p, y :: q, r, r', hp, hq, h => by
    simp only [List.cons_append, List.cons.injEq] at h
    obtain ⟨e1, e2⟩ := cut_inj (fun z => hp (List.mem_cons_of_mem _ z)) (fun z => hq (List.mem_cons_of_mem _ z)) h.2
    exact ⟨by rw [h.1, e1], e2⟩
theorem str_toList {x y : Str} (h : x.cps.toList = y.cps.toList) : x = y := Str.ext' (Array.toList_inj.mp h)
theorem join_inj (c : Nat) : ∀ {l m : List Str}, l ≠ [] → m ≠ [] → (∀ p ∈ l, c ∉ p.cps.toList) → (∀ p ∈ m, c ∉ p.cps.toList) → (Str.join ⟨#[c]⟩ l).cps.toList = (Str.join ⟨#[c]⟩ m).cps.toList → l = m
  | [], _, h, _, _, _, _ => absurd rfl h
  | _, [], _, h, _, _, _ => absurd rfl h
  | [x], [y], _, _, _, _, h => by rw [str_toList (x := x) (y := y) h]
  | [x], y :: z :: r, _, _, hl, _, h => by
    rw [cps_join] at h
    refine absurd ?_ (hl x List.mem_cons_self)
    rw [show x.cps.toList = _ from h]
    simp
  | x :: z :: r, [y], _, _, _, hm, h => by
    rw [cps_join] at h
    refine absurd ?_ (hm y List.mem_cons_self)
    rw [show y.cps.toList = _ from h.symm]
    simp
  | x :: x2 :: r, y :: y2 :: r', _, _, hl, hm, h => by
    rw [cps_join, cps_join] at h
    obtain ⟨e1, e2⟩ := cut_inj (hl x List.mem_cons_self) (hm y List.mem_cons_self) h
    rw [str_toList e1, join_inj c (l := x2 :: r) (m := y2 :: r') (by simp) (by simp) (fun p hp => hl p (List.mem_cons_of_mem _ hp)) (fun p hp => hm p (List.mem_cons_of_mem _ hp)) e2]
theorem split_join (c : Nat) {ws : List Str} (h0 : ws ≠ []) (h : ∀ p ∈ ws, c ∉ p.cps.toList) : Txt.split (Str.join ⟨#[c]⟩ ws) ⟨#[c]⟩ = ws := by
  refine join_inj c ?_ h0 (StrLaws.split_free _ c) h (by rw [StrLaws.join_split])
  intro e
  have := PyProof.Rows.split_pos (Str.join ⟨#[c]⟩ ws) ⟨#[c]⟩
  rw [e] at this
  exact absurd this (by decide)
end Com
namespace L2
open PySem PySem.Spec PyProof.Rows
theorem comp_newsS {J : It} {xs : List V} {ls : List (List V)} {σ' : St} {j : Nat} {te : TE} {Q : VK} {H : Hp} (W : Wk J xs H) (hz : xs.length ≤ sizeLine) (hl : ls.length = xs.length)
    (hs : ∀ (i : Nat) x l H3, xs[i]? = some x → ls[i]? = some l → Same H H3 → ∀ Q' : VK, (∀ D H4, Same H3 H4 → H3 D = none → H4 D = some (.lst l) → Q' (.ref D) H4) → te (σ'.set j (some x)) H3 Q')
    (hd : ∀ (as : List Addr) H', Same H H' → as.length = ls.length → as.Nodup → (∀ b ∈ as, H b = none) → (∀ (i : Nat) a l, as[i]? = some a → ls[i]? = some l → H' a = some (.lst l)) → ∀ D, H' D = none → Q (.ref D) (upd H' D (.lst (as.map V.ref)))) : CompW σ' j tYes te Q J H := by
  refine comp_inv W (fun i ys H3 => Same H H3 ∧ ∃ as : List Addr, ys = as.map V.ref ∧ as.length = i ∧ as.Nodup ∧ (∀ b ∈ as, H b = none) ∧ (∀ b ∈ as, ∃ o, H3 b = some o) ∧ ∀ (k : Nat) a l, as[k]? = some a → ls[k]? = some l → H3 a = some (.lst l))
    ⟨Same.refl _, [], rfl, rfl, List.nodup_nil, (fun _ h => by cases h), (fun _ h => by cases h), fun k a l e => by simp at e⟩ (fun i ys H3 p => p.1) ?_ ?_ ?_
  · rintro i x ys H3 ex ⟨s3, as, rfl, hlen, nd, fr, there, hrow⟩
    have hi : i < xs.length := (List.getElem?_eq_some_iff.mp ex).1
    have el : ls[i]? = some ls[i] := List.getElem?_eq_getElem (by omega)
    show te _ _ _
    refine hs i x _ H3 ex el s3 _ fun D H4 s4 hD e4 => ⟨s3.trans s4, as ++ [D], by simp, by simp [hlen], ?_, ?_, ?_, ?_⟩
    · refine List.nodup_append.mpr ⟨nd, by simp, fun a ha c hc z => ?_⟩
      have : c = D := by simpa using hc
      subst this
      subst z
      obtain ⟨o, e⟩ := there a ha
      rw [hD] at e; cases e
    · intro c hc
      rcases List.mem_append.mp hc with hc | hc
      · exact fr c hc
      · have : c = D := by simpa using hc
        rw [this]; exact s3.free hD
    · intro c hc
      rcases List.mem_append.mp hc with hc | hc
      · obtain ⟨o, e⟩ := there c hc
        exact ⟨o, s4 _ _ e⟩
      · have : c = D := by simpa using hc
        rw [this]; exact ⟨_, e4⟩
    · intro k a l ea el'
      by_cases hk : k < as.length
      · rw [List.getElem?_append_left hk] at ea
        exact s4 _ _ (hrow k a l ea el')
      · rw [List.getElem?_append_right (by omega)] at ea
        have hk' : k - as.length = 0 := by
          have := (List.getElem?_eq_some_iff.mp ea).1
          simp at this
          omega
        rw [hk'] at ea
        have e1 : D = a := by simpa using ea
        have e2 : k = i := by omega
        subst e2
        rw [el] at el'
        rw [← e1, ← Option.some.inj el']
        exact e4
  · rintro i ys H3 hi ⟨s3, as, rfl, hlen, r⟩
    rw [List.length_map]
    omega
  · rintro ys H3 ⟨s3, as, rfl, hlen, nd, fr, there, hrow⟩ D hD
    exact hd as H3 s3 (by omega) nd fr hrow D hD
theorem comp_valsS {J : It} {xs ys : List V} {σ' : St} {j : Nat} {te : TE} {Q : VK} {H : Hp} (W : Wk J xs H) (hz : xs.length ≤ sizeLine) (hl : ys.length = xs.length)
    (hs : ∀ (i : Nat) x y H3, xs[i]? = some x → ys[i]? = some y → Same H H3 → ∀ Q' : VK, (∀ H4, Same H3 H4 → Q' y H4) → te (σ'.set j (some x)) H3 Q') (hd : ∀ H' D, Same H H' → H' D = none → Q (.ref D) (upd H' D (.lst ys))) : CompW σ' j tYes te Q J H := by
  refine comp_inv W (fun i zs H3 => Same H H3 ∧ i ≤ xs.length ∧ zs = ys.take i) ⟨Same.refl _, Nat.zero_le _, rfl⟩ (fun i zs H3 p => p.1) ?_ ?_ ?_
  · rintro i x zs H3 ex ⟨s3, hi, rfl⟩
    have hi' : i < xs.length := (List.getElem?_eq_some_iff.mp ex).1
    have ey : ys[i]? = some ys[i] := List.getElem?_eq_getElem (by omega)
    show te _ _ _
    refine hs i x _ H3 ex ey s3 _ fun H4 s4 => ⟨s3.trans s4, hi', ?_⟩
    rw [List.take_add_one, ey]
    rfl
  · rintro i zs H3 hi ⟨s3, _, rfl⟩
    rw [List.length_take]
    omega
  · rintro zs H3 ⟨s3, _, rfl⟩ D hD
    rw [List.take_of_length_le (by omega)]
    exact hd H3 D s3 hD
end L2
set_option Elab.async false
set_option linter.all false
set_option maxRecDepth 100000
set_option maxHeartbeats 4000000
namespace Com
open PySem L2
def Nu (i : Int) : Prop := 0 ≤ i ∧ i < 100000000000000000000
theorem Nu.sm {i : Int} (h : Nu i) : Sm i := by
  obtain ⟨a, b⟩ := h
  show i.natAbs < 1000000000000000000000000000000
  omega
theorem num_signs (m : Nat) : (numS (m : Int)).cps.toList = (Nat.toDigits 10 m).map Char.toNat := PySem.W.KIN.signs_num m
theorem num_digit {i : Int} (h : 0 ≤ i) : ∀ c ∈ (numS i).cps.toList, 48 ≤ c ∧ c ≤ 57 := by
  obtain ⟨m, rfl⟩ := Int.eq_ofNat_of_zero_le h
  intro c hc
  rw [num_signs] at hc
  obtain ⟨ch, hch, rfl⟩ := List.mem_map.mp hc
  exact PyProof.Rows.digit_range (Nat.isDigit_of_mem_toDigits (by decide) (by decide) hch)
theorem num_pos {i : Int} (h : 0 ≤ i) : 1 ≤ (numS i).length := by
  obtain ⟨m, rfl⟩ := Int.eq_ofNat_of_zero_le h
  have e : (numS (m : Int)).length = (numS (m : Int)).cps.toList.length := Array.length_toList.symm
  rw [e, num_signs, List.length_map]
  exact Nat.length_toDigits_pos
theorem num_le {i : Int} (h : Nu i) : (numS i).length ≤ 20 := by
  obtain ⟨h0, h1⟩ := h
  obtain ⟨m, rfl⟩ := Int.eq_ofNat_of_zero_le h0
  have e : (numS (m : Int)).length = (numS (m : Int)).cps.toList.length := Array.length_toList.symm
  rw [e, num_signs, List.length_map]
  exact (Nat.length_toDigits_le_iff (by decide) (by decide)).mpr (by show m < 100000000000000000000; omega)
theorem num_int {i : Int} (h : Nu i) : PySem.intText? (numS i) = some i := by
  have hl := num_le h
  have hp := num_pos h.1
  have hd := num_digit h.1
  obtain ⟨m, rfl⟩ := Int.eq_ofNat_of_zero_le h.1
  have e := PySem.intText_digits (x := numS (m : Int)) hd (fun z => by
    have e : (numS (m : Int)).length = (numS (m : Int)).cps.toList.length := Array.length_toList.symm
    rw [z] at e
    rw [e] at hp
    exact absurd hp (by decide)) (by omega)
  rw [num_signs, PySem.W.KIN.val_back] at e
  exact e
theorem head_dig : ∀ (m : Nat), 0 < m → ∃ c r, Nat.toDigits 10 m = c :: r ∧ c ≠ '0' := by
  intro m
  induction m using Nat.strongRecOn with
  | _ m ih =>
    intro h0
    by_cases h : m < 10
    · rw [Nat.toDigits_of_lt_base h]
      refine ⟨_, _, rfl, ?_⟩
      match m, h, h0 with
      | 1, _, _ | 2, _, _ | 3, _, _ | 4, _, _ | 5, _, _ | 6, _, _ | 7, _, _ | 8, _, _ | 9, _, _ => decide
    · have hm : m % 10 < 10 := Nat.mod_lt m (by decide)
      have t : Nat.toDigits 10 (m / 10) ++ Nat.toDigits 10 (m % 10) = Nat.toDigits 10 (10 * (m / 10) + m % 10) := Nat.toDigits_append_toDigits (by decide) (by omega) hm
      rw [Nat.div_add_mod] at t
      obtain ⟨c, r, e, hc⟩ := ih (m / 10) (by omega) (by omega)
      rw [← t, e]
      exact ⟨c, _, rfl, hc⟩
theorem num_lead {i : Int} (h : 0 ≤ i) {c : Nat} (hc : (numS i).cps[0]? = some c) : c = 48 → numS i = Str.ofString "0" := by
  obtain ⟨m, rfl⟩ := Int.eq_ofNat_of_zero_le h
  intro e
  subst e
  have h1 : (numS (m : Int)).cps.toList[0]? = some 48 := by simpa using hc
  rw [num_signs] at h1
  cases m with
  | zero => rfl
  | succ m =>
    obtain ⟨d, r, e, hd⟩ := head_dig (m + 1) (Nat.succ_pos m)
    rw [e] at h1
    simp only [List.map_cons, List.getElem?_cons_zero, Option.some.injEq] at h1
    refine absurd ?_ hd
    exact Char.toNat_inj.mp h1
theorem ascii_of {x : Str} (h : ∀ c ∈ x.cps.toList, 48 ≤ c ∧ c ≤ 57) : x.cps.all (· < 128) = true := by
  rw [← Array.all_toList, List.all_eq_true]
  intro c hc
  have := h c hc
  simp
  omega
theorem fig_in : ∀ c, 48 ≤ c → c ≤ 57 → (!(Builtin.Str.occurrences (Str.ofString "0123456789") ⟨#[c]⟩ 0 (Str.ofString "0123456789").length 1).isEmpty) = true := by
  have key : ∀ k : _root_.Fin 10, (!(Builtin.Str.occurrences (Str.ofString "0123456789") ⟨#[48 + k.val]⟩ 0 (Str.ofString "0123456789").length 1).isEmpty) = true := by decide +kernel
  intro c h1 h2
  have := key ⟨c - 48, by omega⟩
  rw [show 48 + (c - 48) = c by omega] at this
  exact this
theorem sp_is : Str.ofString " " = ⟨#[32]⟩ := by decide +kernel
theorem nl_is : Str.ofString "\n" = ⟨#[10]⟩ := by decide +kernel
theorem nu_of {i : Int} (h : 0 ≤ i) (h2 : i ≤ 1000000) : Nu i := ⟨h, by omega⟩
theorem free_of {x : Str} {k : Nat} (hk : k < 48) (h : ∀ c ∈ x.cps.toList, 48 ≤ c) : k ∉ x.cps.toList := fun z => by
  have := h k z
  omega
theorem join_free {c k : Nat} (hck : c ≠ k) : ∀ {l : List Str}, (∀ p ∈ l, k ∉ p.cps.toList) → k ∉ (Str.join ⟨#[c]⟩ l).cps.toList
  | [], _ => by simp [Str.join, Str.empty]
  | [x], h => h x List.mem_cons_self
  | x :: y :: r, h => by
    rw [cps_join]
    intro z
    rcases List.mem_append.mp z with z | z
    · exact h x List.mem_cons_self z
    · rcases List.mem_cons.mp z with z | z
      · exact hck z.symm
      · exact join_free hck (l := y :: r) (fun p hp => h p (List.mem_cons_of_mem _ hp)) z
def headW (w : Int) : List Str := [Str.ofString "board", numS w]
theorem head_join (w : Int) : headS w = Str.join ⟨#[32]⟩ (headW w) := by
  unfold headS
  rw [sp_is]
  rfl
theorem headW_free {w : Int} (h : Nu w) {k : Nat} (hk : k < 48) : ∀ p ∈ headW w, k ∉ p.cps.toList := fun y hy => by
  unfold headW at hy
  simp only [List.mem_cons, List.not_mem_nil, or_false] at hy
  rcases hy with rfl | rfl
  · exact free_of hk (by decide +kernel)
  · exact free_of hk fun c hc => (num_digit h.1 c hc).1
theorem head_split {w : Int} (h : Nu w) : Txt.split (headS w) ⟨#[32]⟩ = headW w := by
  rw [head_join]
  exact split_join 32 (by unfold headW; simp) (headW_free h (by decide))
theorem word_pit {e : Int} (N : e = -1 ∨ Nu e) (h : wordS e = Str.ofString "pit") : e = -1 := by
  rcases N with N | N
  · exact N
  · exfalso
    unfold wordS at h
    rw [if_neg (by have := N.1; omega)] at h
    have hd := num_digit N.1
    rw [h] at hd
    exact absurd (hd 112 (by decide +kernel)) (by decide)
theorem cut_from {xs : List V} {k : Nat} (hk : k ≤ xs.length) : cutV xs (some (k : Int)) none = xs.drop k := by
  unfold cutV
  rw [HT.sIx_none, HT.sIx_nat, Nat.min_eq_left hk]
  exact List.take_of_length_le (by simp)
theorem cut_to {xs : List V} {k : Nat} (hk : k ≤ xs.length) : cutV xs none (some (k : Int)) = xs.take k := by
  unfold cutV
  rw [HT.sIx_none, HT.sIx_nat, Nat.min_eq_left hk, List.drop_zero, Nat.sub_zero]
theorem cut_mid {xs : List V} {j k : Nat} (hj : j ≤ k) (hk : k ≤ xs.length) : cutV xs (some (j : Int)) (some (k : Int)) = (xs.drop j).take (k - j) := by
  unfold cutV
  rw [HT.sIx_nat, HT.sIx_nat, Nat.min_eq_left hk, Nat.min_eq_left (Nat.le_trans hj hk)]
theorem lineW_map (t l s : Int) (r : List Int) : (lineW t l s r).map V.str = V.str (numS t) :: V.str (numS l) :: V.str (numS s) :: V.str (Str.ofString ">") :: (r.map wordS).map V.str := by
  unfold lineW
  rw [List.map_append]
  rfl
end Com
set_option Elab.async false
set_option linter.all false
set_option maxRecDepth 100000
set_option maxHeartbeats 4000000
namespace Com
def rnk (rows : List (List Int)) (e : Int) : Nat := if e < 0 then 0 else 1 + (if reachN rows 1 e.toNat = true then 0 else 1) + (if reachN rows 2 e.toNat = true then 0 else 1) + (if reachN rows 3 e.toNat = true then 0 else 1)
def wgt : Nat → Int
  | 0 => 0
  | 1 => 81
  | 2 => 108
  | 3 => 117
  | _ => 120
theorem wgt_le (k : Nat) : 0 ≤ wgt k ∧ wgt k ≤ 120 := by
  match k with
  | 0 | 1 | 2 | 3 => decide
  | k + 4 => exact ⟨(by decide : (0 : Int) ≤ 120), (by decide : (120 : Int) ≤ 120)⟩
theorem rnk_le (rows : List (List Int)) (e : Int) : rnk rows e ≤ 4 := by
  unfold rnk
  split
  · omega
  · split <;> split <;> split <;> omega
theorem rnk_site {rows : List (List Int)} {i : Nat} : rnk rows (i : Int) = 1 + (if reachN rows 1 i = true then 0 else 1) + (if reachN rows 2 i = true then 0 else 1) + (if reachN rows 3 i = true then 0 else 1) := by
  unfold rnk
  rw [if_neg (by omega), Int.toNat_natCast]
theorem rnk_of {rows : List (List Int)} {e : Int} {k : Nat} (h : e = -1 ∨ 0 ≤ e ∧ reachN rows k e.toNat = true) (hk : k ≤ 3) : rnk rows e ≤ k := by
  unfold rnk
  rcases h with h | ⟨h0, h⟩
  · rw [if_pos (by omega)]; omega
  · rw [if_neg (by omega)]
    match k, hk, h with
    | 0, _, h => cases h
    | 1, _, h => rw [if_pos h, if_pos (reachN_le rows (by decide : 1 ≤ 2) h), if_pos (reachN_le rows (by decide : 1 ≤ 3) h)]; omega
    | 2, _, h => rw [if_pos h, if_pos (reachN_le rows (by decide : 2 ≤ 3) h)]; split <;> omega
    | 3, _, h => rw [if_pos h]; split <;> split <;> omega
theorem reach_exit {rows : List (List Int)} {k i : Nat} (h : reachN rows (k + 1) i = true) : ∃ e ∈ rows.getD i [], e = -1 ∨ 0 ≤ e ∧ reachN rows k e.toNat = true := by
  unfold reachN at h
  obtain ⟨e, he, q⟩ := List.any_eq_true.mp h
  refine ⟨e, he, ?_⟩
  rw [Bool.or_eq_true, Bool.and_eq_true] at q
  rcases q with q | ⟨q1, q2⟩
  · exact .inl (by simpa using q)
  · exact .inr ⟨of_decide_eq_true q1, q2⟩
theorem rnk_down {rows : List (List Int)} {i : Nat} (h4 : reachN rows 4 i = true) : ∃ e ∈ rows.getD i [], rnk rows e + 1 ≤ rnk rows (i : Int) := by
  rw [rnk_site]
  by_cases h1 : reachN rows 1 i = true
  · obtain ⟨e, he, q⟩ := reach_exit h1
    have := rnk_of q (by decide)
    exact ⟨e, he, by omega⟩
  rw [if_neg h1]
  by_cases h2 : reachN rows 2 i = true
  · obtain ⟨e, he, q⟩ := reach_exit h2
    have := rnk_of q (by decide)
    exact ⟨e, he, by omega⟩
  rw [if_neg h2]
  by_cases h3 : reachN rows 3 i = true
  · obtain ⟨e, he, q⟩ := reach_exit h3
    have := rnk_of q (by decide)
    exact ⟨e, he, by omega⟩
  rw [if_neg h3]
  obtain ⟨e, he, q⟩ := reach_exit h4
  have := rnk_of q (by decide)
  exact ⟨e, he, by omega⟩
theorem wgt_step {j k : Nat} (h : j + 1 ≤ k) (hk : k ≤ 4) : (120 - wgt k + 1) * 2 ≤ wgt k - wgt j - 1 := by
  match k, hk, j, h with
  | 1, _, 0, _ => decide
  | 2, _, 0, _ | 2, _, 1, _ => decide
  | 3, _, 0, _ | 3, _, 1, _ | 3, _, 2, _ => decide
  | 4, _, 0, _ | 4, _, 1, _ | 4, _, 2, _ | 4, _, 3, _ => decide
theorem sum_box {g : Int → Int} {lo hi : Int} (hl : lo ≤ 0) (hh : 0 ≤ hi) : ∀ {r : List Int}, r.length ≤ 3 → (∀ e ∈ r, lo ≤ g e ∧ g e ≤ hi) → 3 * lo ≤ (r.map g).sum ∧ (r.map g).sum ≤ 3 * hi
  | [], _, _ => by simp; omega
  | [a], _, h => by
    have := h a (by simp)
    simp; omega
  | [a, b], _, h => by
    have := h a (by simp)
    have := h b (by simp)
    simp; omega
  | [a, b, c], _, h => by
    have := h a (by simp)
    have := h b (by simp)
    have := h c (by simp)
    simp; omega
  | a :: b :: c :: d :: r, h, _ => by simp at h
theorem sum_good {g : Int → Int} {lo : Int} (hl : lo ≤ 0) : ∀ {r : List Int}, r.length ≤ 3 → (∀ e ∈ r, lo ≤ g e) → (∃ e ∈ r, -lo * 2 ≤ g e) → 0 ≤ (r.map g).sum
  | [], _, _, ⟨e, he, _⟩ => by cases he
  | [a], _, h, ⟨e, he, q⟩ => by
    have := h a (by simp)
    simp only [List.mem_cons, List.not_mem_nil, or_false] at he
    subst he
    simp; omega
  | [a, b], _, h, ⟨e, he, q⟩ => by
    have := h a (by simp)
    have := h b (by simp)
    simp only [List.mem_cons, List.not_mem_nil, or_false] at he
    rcases he with rfl | rfl <;> (simp; omega)
  | [a, b, c], _, h, ⟨e, he, q⟩ => by
    have := h a (by simp)
    have := h b (by simp)
    have := h c (by simp)
    simp only [List.mem_cons, List.not_mem_nil, or_false] at he
    rcases he with rfl | rfl | rfl <;> (simp; omega)
  | a :: b :: c :: d :: r, h, _, _ => by simp at h
theorem tame_open {rows : List (List Int)} (W : Wf rows) (hn : rows.length ≤ 4) (h3 : ∀ r ∈ rows, r.length ≤ 3) (op : ∀ i, i < rows.length → rch rows i = true) : Tame rows 30 := by
  have hi1 : ∀ i, i < rows.length → 81 ≤ wgt (rnk rows (i : Int)) := fun i hi => by
    have h1 : 1 ≤ rnk rows (i : Int) := by rw [rnk_site]; omega
    have h2 := rnk_le rows (i : Int)
    match rnk rows (i : Int), h1, h2 with
    | 1, _, _ | 2, _, _ | 3, _, _ | 4, _, _ => decide
  have len3 : ∀ i, i < rows.length → (rows.getD i []).length ≤ 3 := fun i hi => h3 _ (gD_mem hi)
  have box : ∀ i, i < rows.length → ∀ e : Int, -40 ≤ wgt (rnk rows (i : Int)) - wgt (rnk rows e) - 1 ∧ wgt (rnk rows (i : Int)) - wgt (rnk rows e) - 1 ≤ 119 := fun i hi e => by
    have := hi1 i hi
    have := wgt_le (rnk rows e)
    have := wgt_le (rnk rows (i : Int))
    omega
  refine ⟨fun e => wgt (rnk rows e), 120, 120, 357, ?_, fun i hi => (wgt_le _).1, fun i hi => (wgt_le _).2, fun i hi => ?_, fun i hi t ht => ?_, fun i hi t ht => ?_, by decide, by omega⟩
  · show wgt (rnk rows (-1)) = 0
    unfold rnk
    rw [if_pos (by decide)]
    rfl
  · unfold dropW
    dsimp only
    rw [List.take_length]
    have h4 : reachN rows 4 i = true := reachN_le rows hn (op i hi)
    obtain ⟨e, he, q⟩ := rnk_down h4
    have w0 := wgt_le (rnk rows (i : Int))
    refine sum_good (lo := -(120 - wgt (rnk rows (i : Int)) + 1)) (by omega) (len3 i hi) (fun e' _ => ?_) ⟨e, he, ?_⟩
    · have := wgt_le (rnk rows e')
      omega
    · have := wgt_step q (rnk_le rows _)
      omega
  · unfold dropW
    dsimp only
    have := (sum_box (g := fun e => wgt (rnk rows (i : Int)) - wgt (rnk rows e) - 1) (lo := -40) (hi := 119) (by decide) (by decide) (r := (rows.getD i []).take t) (by rw [List.length_take]; have := len3 i hi; omega) fun e _ => box i hi e).1
    omega
  · unfold dropW
    dsimp only
    have := (sum_box (g := fun e => wgt (rnk rows (i : Int)) - wgt (rnk rows e) - 1) (lo := -40) (hi := 119) (by decide) (by decide) (r := (rows.getD i []).take t) (by rw [List.length_take]; have := len3 i hi; omega) fun e _ => box i hi e).2
    omega
end Com
set_option Elab.async false
set_option linter.all false
set_option maxRecDepth 100000
set_option maxHeartbeats 4000000
namespace L2
open PySem PySem.Spec PyProof.Rows
section
variable {X : Cx} {ex : Expr} {t : XK → TE} {th : Value → Option Addr → TS} {h₀ : ExceptHandler} {hs : List ExceptHandler} {p1 pos : Pos}
end
end L2
set_option Elab.async false
set_option linter.all false
set_option maxRecDepth 100000
set_option maxHeartbeats 4000000
namespace L2
open PySem PySem.Spec PyProof.Rows
def cxH (P : Program) (w : World) (K : PySem.W.Frag) (mg : Str → Option Value) (base : Heap) (N : List Str) (qual : Str) (scope : Scope) (f : Addr) (cd : Value) (A : Around) (outer : List Env) (s : Shared) (H : Hp) : Cx :=
  { cxOf CX0 P w K mg base N qual scope f cd A outer s H E0 with calm := false }
theorem env_unmark {P : Program} {w : World} {K : PySem.W.Frag} {mg : Str → Option Value} {base : Heap} {A : Around} {outer : List Env} {s : Shared} {H : Hp} (e : Env0 P w K mg base A outer s H) : Env0 P w K mg base { A with handled := none } outer s H :=
  ⟨e.frames, e.mod, e.bs, e.bsz, e.funs, e.frf, e.hok, e.bare⟩
theorem inv_startH {P : Program} {w : World} {K : PySem.W.Frag} {mg : Str → Option Value} {base : Heap} {N ps : List Str} {qual : Str} {scope : Scope} {f : Addr} {cd : Value} {A : Around} {outer : List Env} {s s1 : Shared} {H : Hp} {us : List Value} {vs : List V}
    (S : FnScope N ps scope) (e0 : Env0 P w K mg base A outer s H) (hl : vs.length = ps.length) (r : Vals vs us)
    (x : InCallC s s.heap.objs.size (bindL (envOfC qual scope s.heap.objs.size f cd).kindOf (ps.zip us) fun _ => none) (cellsFrom (s.heap.objs.size + 1) scope.names []) (bindC (envOfC qual scope s.heap.objs.size f cd).kindOf (ps.zip us) fun _ => none) s1) :
    Inv (cxH P w K mg base N qual scope f cd A outer s H) [] (start N vs) H s1 := by
  have I := inv_start (CX := CX0) (E := E0) (A := { A with handled := none }) S rfl (env_unmark e0) hl r x
  have ok := I.ok
  exact ⟨⟨ok.mod, ok.kind, ok.glob, ok.blt, ok.above, ok.inj, ok.has, ok.cab, (fun z => by cases z), Around.frames_deeper e0.frames, ok.stk, ok.exf, ok.bs, ok.bsz, ok.noex, ok.exfs, ok.funs, ok.frf⟩, I.os, I.bare, I.base, I.loc, I.cell, I.free, I.freeC, I.pin, I.hok, I.len⟩
structure FnH (P : Program) (w : World) (K : PySem.W.Frag) (mg : Str → Option Value) (base : Heap) (f : Addr) (fd : FuncData) (ps : List Str) (sp : Sp) : Prop where
  len : ∀ vs H Q E, sp vs H Q E → vs.length = ps.length
  run : ∀ (A : Around) (outer : List Env) (s : Shared) (H : Hp) (args : Args) (us : List Value) (vs : List V) (Q : VK), A.depth < recursionLimit → Env0 P w K mg base A outer s H → BindsTo s fd args (ps.zip us) → Vals vs us → sp vs H Q E0 →
    codeAny (model P w) A (.call (.ref f) args) (CR CX0 outer P w H s Q E0) s
theorem Fun.okH {P : Program} {w : World} {K : PySem.W.Frag} {mg : Str → Option Value} {base : Heap} {x qual : Str} {st : Stmt} {f : Addr} {fd : FuncData} {N ps : List Str} {sp : Sp} (F : Fun K x qual st f fd) (S : FnScope N ps (defScope st)) (len : ∀ vs H Q E, sp vs H Q E → vs.length = ps.length)
    (hbody : ∀ (cdv : Value) (A : Around) (outer : List Env) (s : Shared) (H : Hp) (vs : List V) (Q : VK), sp vs H Q E0 →
      ∃ t, PSs (cxH P w K mg base N qual (defScope st) f cdv A outer s H) (defBody st) t ∧ t { nx := fun _ H' => Q .non H', rt := Q } (start N vs) H) : FnH P w K mg base f fd ps sp := by
  obtain ⟨oc, od, kV, doc, pm, an, cdv, ct, osl, rfl, lk, hcd⟩ := F.ex
  refine ⟨len, fun A outer s H args us vs Q hdp e0 hb r hsp => ?_⟩
  have KX : K.In s.heap := e0.mod.kin.keeps fun b o e => (e0.bs b o e).1
  have hkind : ∀ y ∈ ps.zip us, (defScope st).names.lookup y.1 = some .local ∨ ((defScope st).names.lookup y.1 = some .cell ∧ ((cellsFrom (s.heap.objs.size + 1) (defScope st).names []).lookup y.1).isSome = true) := fun y hy =>
    (S.par y.1 (List.of_mem_zip (a := y.1) (b := y.2) hy).1).elim .inl fun q => .inr ⟨q, PySem.W.cellsFrom_some _ _ _ (.inl q)⟩
  refine codeAny_call_function hdp (KX _ _ lk) rfl S.co S.gen rfl (PySem.W.codeRec_of KX hcd) (hb _ _ _ _ (wpAny_newFunctionEnv_cells S.kind hkind fun env he s1 x => ?_))
  subst he
  refine ⟨(e0.mod.nolimit.keeps fun b o e => (e0.bs b o e).1).keeps x.toInCall.keep, codeAny_func ?_⟩
  obtain ⟨t, ht, hq⟩ := hbody cdv A outer s H vs Q hsp
  have I := inv_startH (K := K) (mg := mg) (qual := qual) (f := f) (cd := cdv) S e0 (len _ _ _ _ hsp) r x
  refine wpAny_mono (ht [] s1 (start N vs) H _ I hq) (fun fl s' hs => ?_) fun e s' hs => hs
  cases fl with
  | ret u => obtain ⟨v, σ', H', J, rv, q⟩ := hs; exact ⟨v, H', J.os, J.bare, J.base, J.hok, rv, q⟩
  | next => obtain ⟨σ', H', J, q⟩ := hs; exact ⟨V.non, H', J.os, J.bare, J.base, J.hok, rfl, q⟩
  | brk => obtain ⟨_, _, _, q⟩ := hs; exact False.elim q
  | cont => obtain ⟨_, _, _, q⟩ := hs; exact False.elim q
section
variable {X : Cx} {f : Addr} {fd : FuncData} {ps : List Str} {sp : Sp} {x : Str} {p pos : Pos} {e : Expr} {es : List Expr} {t : TA}
theorem pe_callH (F : FnH X.prog X.w X.K X.mg X.base f fd ps sp) (hdp : X.A.depth < recursionLimit) (hg : Gl X x) (hm : X.mg x = some (.ref f)) (hk : PySem.W.keepIn X.K (.ref f) = true) (hb : Binds X.K fd ps [])
    (ha : PA X (e :: es) t) (hdb : (x == ("__debug__" : Str)) = false := by decide) (he : starEach (e :: es) X.env = (false, eval e X.env) :: starEach es X.env := by rfl) (hpl : (backTo pos (starEach es X.env)).any (·.1) = false := by rfl) :
    PE X (.Call (.Name x p) (e :: es) [] pos) (tCall sp [] E0 t) := by
  intro pins s σ H Q I h
  refine wpAny_Call_Name_kw (ld_glob I hg hm ?_ hdb)
  refine PySem.W.callWith_K (h₀ := X.base) I.ok.mod.kin hk (thn (ha pos pins s σ H _ I h) fun us s1 ⟨vs, H1, I1, r, q⟩ => ⟨I1.kIn, ?_⟩) he hpl
  have q' : sp (vs ++ []) H1 Q E0 := q
  rw [List.append_nil] at q'
  have hb' := hb s1 us I1.kIn (by rw [List.append_nil, ← r.length]; exact F.len _ _ _ _ q')
  rw [List.append_nil] at hb'
  refine wpAny_call (codeAny_mono (F.run X.A X.stack s1 H1 ⟨us, []⟩ us vs Q hdp I1.env0 hb' r q') fun r s' hq => ?_)
  cases r with
  | error e => exact False.elim hq
  | ok fl => cases fl with
    | ret u => exact I1.after hq
    | next => exact False.elim hq
    | brk => exact False.elim hq
    | cont => exact False.elim hq
end
end L2
set_option Elab.async false
set_option linter.all false
set_option maxRecDepth 100000
set_option maxHeartbeats 4000000
namespace L2
open PySem PySem.Spec PyProof.Rows
def excC (D e : Addr) : HO := .ext fun h => ∃ ox vs, h.get? e = some ox ∧ ox.cls = .ref D ∧ ox.data = .fields vs ∧ vs[2]? = some .none
section
variable {X : Cx} {pins : List (Addr × Obj)} {σ : St} {H : Hp} {s : Shared} {e : Addr}
theorem Fl.trackC {D : Addr} (F : Fl X pins σ e (.ref D) none H s) : Inv X pins σ (upd H e (excC D e)) s := by
  have hfresh := F.fresh
  have hIn := F.inv
  obtain ⟨s0, H0, B, I, os, bare, xb, sl, fl⟩ := F
  have u := xb.un fl.1 sl I.stkFree
  have fl' := fl
  obtain ⟨k1, k2, k3, oe, ws, T, oT, ts, z1, ⟨z2, z5⟩, z3, z4⟩ := fl'
  have ne0 : ∀ b ob, s0.heap.get? b = some ob → b ≠ e := fun b ob q z => by
    subst z
    by_cases hb : b ∈ frs X.stack
    · obtain ⟨_, o2, ho2, hd2⟩ := k3.mem hb
      rw [z1] at ho2
      cases ho2
      exact hd2 ws z3
    · obtain ⟨o', q'⟩ := xb.there b ob q hb
      rw [k2] at q'; cases q'
  refine I.call' (ch := []) os ⟨u.keep, u.slot, fun b ob q n hx => ?_, u.there, fun b xs q => ?_, fun b ob xs q => ?_, fun b ps q => ?_⟩ (fun b ob q => ?_) bare fun b z => by cases z
  · rw [upd_ne (ne0 b ob q)]; exact u.free b ob q n hx
  · have z := u.tups b xs q
    rw [upd_ne (ne_of_none z hfresh)]; exact z
  · have z := u.frzs b ob xs q
    rw [upd_ne (ne_of_none z hfresh)]; exact z
  · obtain ⟨m, z⟩ := u.tbls b ps q
    exact ⟨m, by rw [upd_ne (ne_of_none z hfresh)]; exact z⟩
  · by_cases hb : b = e
    · subst hb
      rw [upd_same] at q
      cases q
      exact ⟨⟨oe, ws, z1, z2, z3, z5 rfl⟩, ⟨oe, z1⟩, fun h1 h2 ⟨ox, vs, p1, p2⟩ k => ⟨ox, vs, k ox p1, p2⟩⟩
    · rw [upd_ne hb] at q
      exact (hIn.hok b ob q).stay (fun _ _ _ z => z) (fun c z => by rw [upd_ne (ne_of_none z hfresh)]; exact z) fun c xs z => by rw [upd_ne (ne_of_none z hfresh)]; exact z
end
section
variable {A : Around} {E : Value → Shared → Prop} {s : Shared} {prog : Program} {w : World}
theorem entry_unchain : entryFor table "proto.unchain" = some Builtin.«proto.unchain» := entryFor_of_tree (by kernel_rfl)
theorem unchain0 {e : Addr} {o : Obj} {vs : Array Value} {b : Bool} {v : Value} {R : Result → Shared → Prop} (he : s.heap.get? e = some o) (hd : o.data = .fields vs) (h2 : vs[2]? = some .none) (hR : R (.ok (.ret .none)) s) :
    codeAny (model prog w) A (.builtin "proto.unchain" ⟨[v, .ref e, .ref e, .bool b], []⟩) R s := by
  refine codeAny_builtin entry_unchain ?_
  unfold Builtin.«proto.unchain»
  refine wpAny_bind (wpAny_field he hd h2 ?_)
  rw [if_pos (by decide)]
  exact wpAny_pure hR
theorem throwFrom {α : Type} {e e2 t C : Addr} {o : Obj} {vs : Array Value} {Q : α → Shared → Prop} (hh : A.handled = some (.ref e)) (ne : e2 ≠ e) (he : s.heap.get? e = some o) (hd : o.data = .fields vs) (h2 : vs[2]? = some .none)
    (hx : s.heap.get? e2 = some { cls := .ref C, data := .fields #[.ref t, .none, .none, .ref e, .bool true, .none] })
    (h : ∀ h', (∀ b, b ≠ e2 → h'.get? b = s.heap.get? b) → h'.get? e2 = some { cls := .ref C, data := .fields #[.ref t, .none, .ref e, .ref e, .bool true, .none] } → E (.ref e2) { s with heap := h' }) :
    wpAny (model prog w) A (do setFlight (.ref e2) none; raiseNew (.ref e2) : Sem α) Q E s := by
  unfold setFlight
  refine wpAny_bind (wpAny_bind (wpAny_field hx rfl (x := .none) rfl ?_))
  rw [if_neg (by decide)]
  refine wpAny_pure ?_
  unfold raiseNew
  refine wpAny_bind (wpAny_handled ?_)
  rw [hh]
  dsimp only
  rw [if_pos (by rw [bne_iff_ne]; intro z; injection z with z; exact ne z.symm)]
  refine wpAny_bind (wpAny_holding (wpAny_runValue (unchain0 he hd h2 ?_)))
  show wpAny _ _ (setField (.ref e2) 2 (.ref e) >>= fun _ => throw (.ref e2)) _ _ _
  refine wpAny_bind (wpAny_setField (a := e2) (i := 2) hx rfl (by simp) (wpAny_throw (h _ (fun b n => Heap.get?_update_other _ _ (Ne.symm n)) ?_)))
  exact Heap.get?_update_self _ hx rfl
theorem excVal {M : Model} {nm q : Str} {C N e : Addr} {bs bm : List Value} {hdct : Bool} {sn : List Str} {sub : List Value} {ab : Bool} {col : Option Bool} {dd : Option Addr} {k0 k1 k2 k3 k5 : Option Value} {newId : String} {o : Obj} {vs : Array Value} {c : String} {Q : Value → Shared → Prop}
    (hbase : bm.contains (.type "BaseException") = true) (hC : s.heap.get? C = some (excClassObj nm q C N bs bm hdct sn sub ab col dd k0 k1 k2 k3 k5 newId)) (he : s.heap.get? e = some o) (hc : o.cls = .ref C) (hd : o.data = .fields vs) (h : Q (.ref e) s) : wpAny M A (excFromValue (.ref e) c) Q E s := by
  have hcB : (Value.ref C :: bm).contains (.type "BaseException") = true := by rw [List.contains_cons, hbase, Bool.or_true]
  obtain ⟨ocls, odict, odata, oslots⟩ := o
  dsimp only at hc hd
  subst hc hd
  obtain ⟨hp, g, d, tk, os⟩ := s
  unfold excFromValue
  repeat (first | with_reducible refine wpAny_loadPart_at he ?_ | with_reducible refine wpAny_loadPart_at hC ?_ | (with_reducible refine wpAny_isSubtype_exc hC ?_; rw [hcB]) | wp_step)
  exact h
theorem raiseFrom {env : Env} {x c : Sem Value} {Q : Flow → Shared → Prop} {nm q nm' q' : Str} {C N D N' e : Addr} {bs bm bs' bm' : List Value} {hdct hdct' : Bool} {sn sn' : List Str} {sub sub' : List Value} {ab ab' : Bool} {col col' : Option Bool} {dd dd' : Option Addr} {k0 k1 k2 k3 k5 j0 j1 j2 j3 j5 : Option Value} {newId newId' : String}
    (hbase : bm.contains (.type "BaseException") = true) (hbase' : bm'.contains (.type "BaseException") = true) (hh : A.handled = some (.ref e))
    (h : wpAny (model prog w) A x (fun v s1 => ∃ e2, v = .ref e2 ∧ wpAny (model prog w) A c (fun cv s2 => ∃ t o vs, cv = .ref e ∧ e2 ≠ e ∧ s2.heap.get? C = some (excClassObj nm q C N bs bm hdct sn sub ab col dd k0 k1 k2 k3 k5 newId) ∧
        s2.heap.get? D = some (excClassObj nm' q' D N' bs' bm' hdct' sn' sub' ab' col' dd' j0 j1 j2 j3 j5 newId') ∧ s2.heap.get? e = some o ∧ o.cls = .ref D ∧ o.data = .fields vs ∧ vs[2]? = some .none ∧
        s2.heap.get? e2 = some { cls := .ref C, data := .fields #[.ref t, .none, .none, .none, .bool false, .none] } ∧
        ∀ h', (∀ b, b ≠ e2 → h'.get? b = s2.heap.get? b) → h'.get? e2 = some { cls := .ref C, data := .fields #[.ref t, .none, .ref e, .ref e, .bool true, .none] } → E (.ref e2) { s2 with heap := h' }) E s1) E s) :
    wpAny (model prog w) A (raiseStmt env (some x) (some c)) Q E s := by
  have hcB : (Value.ref C :: bm).contains (.type "BaseException") = true := by rw [List.contains_cons, hbase, Bool.or_true]
  unfold raiseStmt
  refine wpAny_bind (thn h fun v s1 ⟨e2, ev, h1⟩ => ?_)
  subst ev
  dsimp only
  refine wpAny_bind (wpAny_holding (thn h1 fun cv s2 ⟨t, o, vs, ec, ne, hC, hD, he, hoc, hod, h2, hx, fin⟩ => wpAny_bind (wpAny_pure ?_)))
  subst ec
  refine wpAny_bind (wpAny_holding (excVal hbase hC hx rfl rfl ?_))
  dsimp only
  rw [if_neg (by intro z; cases z)]
  refine wpAny_bind (wpAny_holding (excVal hbase' hD he hoc hod (wpAny_bind (wpAny_setField hx rfl (by simp) ?_))))
  have hx1 := Heap.get?_update_self (Obj.mapFields (·.setIfInBounds 3 (Value.ref e))) hx rfl
  refine wpAny_bind (wpAny_setField (s := { s2 with heap := s2.heap.update e2 (Obj.mapFields (·.setIfInBounds 3 (Value.ref e))) }) hx1 rfl (by simp [Obj.mapFields]) ?_)
  have hx2 := Heap.get?_update_self (Obj.mapFields (·.setIfInBounds 4 (Value.bool true))) hx1 rfl
  have oth : ∀ b, b ≠ e2 → ((s2.heap.update e2 (Obj.mapFields (·.setIfInBounds 3 (Value.ref e)))).update e2 (Obj.mapFields (·.setIfInBounds 4 (Value.bool true)))).get? b = s2.heap.get? b := fun b n => by
    rw [Heap.get?_update_other _ _ (Ne.symm n), Heap.get?_update_other _ _ (Ne.symm n)]
  have nC : C ≠ e2 := fun z => by rw [z, hx] at hC; cases hC
  have hC' := (oth C nC).trans hC
  obtain ⟨hp, g, d, tk, os⟩ := s2
  dsimp only at *
  generalize (hp.update e2 (Obj.mapFields (·.setIfInBounds 3 (Value.ref e)))).update e2 (Obj.mapFields (·.setIfInBounds 4 (Value.bool true))) = hp2 at hx2 oth hC' ⊢
  have it : wpAny (model prog w) A (isType (.ref e2)) (fun b s' => b = false ∧ s' = ⟨hp2, g, d, tk, os⟩) E ⟨hp2, g, d, tk, os⟩ := by
    repeat (first | with_reducible refine wpAny_loadPart_at hx2 ?_ | wp_step)
    exact ⟨rfl, rfl⟩
  refine wpAny_bind (thn it fun b s' ⟨eb, es⟩ => ?_)
  subst eb es
  rw [if_neg (by decide)]
  have ri : wpAny (model prog w) A (raisedInstance (.ref e2)) (fun b s' => b = .ref e2 ∧ s' = ⟨hp2, g, d, tk, os⟩) E ⟨hp2, g, d, tk, os⟩ := by
    repeat (first | with_reducible refine wpAny_loadPart_at hx2 ?_ | with_reducible refine wpAny_loadPart_at hC' ?_ | wp_step)
    exact ⟨rfl, rfl⟩
  refine wpAny_bind (thn ri fun b s' ⟨eb, es⟩ => ?_)
  subst eb es
  refine throwFrom (C := C) (t := t) hh ne ((oth e (Ne.symm ne)).trans he) hod h2 hx2 fun h' k1 k2 => ?_
  exact fin h' (fun b n => (k1 b n).trans (oth b n)) k2
end
section
variable {X : Cx} {pins : List (Addr × Obj)} {σ : St} {H : Hp} {s : Shared} {e : Addr}
theorem evalMade {R : Addr} {y : Str} {e₀ : Expr} {rest : List Expr} {t : TA} {yp cpos : Pos} {E : Value → Shared → Prop} {Q : Value → Shared → Prop} (I : Inv X pins σ H s) (hg : Gl X y) (hm : X.mg y = some (.ref R)) (hR : XCls X.K R) (ha : PA X.nox (e₀ :: rest) t) {P : List V → Hp → Prop}
    (h : t σ H fun vs H1 => vs.length ≤ sizeLine ∧ P vs H1) (k : ∀ s1 H1 vs us h' e2, Inv X pins σ H1 s1 → P vs H1 → Heap.MadeExcOf s1.heap h' e2 (.ref R) us → Q (.ref e2) { s1 with heap := h' })
    (hd : (y == ("__debug__" : Str)) = false := by decide) (he : starEach (e₀ :: rest) X.env = (false, eval e₀ X.env) :: starEach rest X.env := by rfl) (hpl : (backTo cpos (starEach rest X.env)).any (·.1) = false := by rfl) :
    wpAny (model X.prog X.w) X.A (eval (.Call (.Name y yp) (e₀ :: rest) [] cpos) X.env) Q E s := by
  obtain ⟨tl, N, nm, q, bs, hdct, sn, sub, ab, col, dd, k0, k1, k2, k3, k5, mN, hCo, hN, hni, T⟩ := own_obj I.mod.kin hR.ex
  refine wpAny_Call_ofName (ld_glob I hg hm ?_ hd)
  have hA := ha.any (pos := cpos) I h E
  have hpl' : (backTo cpos (starEach (e₀ :: rest) X.env)).any (·.1) = false := by rw [he]; show (false || (backTo cpos (starEach rest X.env)).any (·.1)) = false; rw [hpl]; rfl
  unfold callWith
  refine wpAny_bind (wpAny_holding ?_)
  rw [he] at hA hpl' ⊢
  refine Calls.evalArgs_plain (thn hA fun us s2 ⟨vs, H1, I1, rv, hz, q⟩ => wpAny_bind (wpAny_standAt ?_))
  have hC2 := I1.bk _ _ hCo
  simp only [hpl']
  have hlen : us.length ≤ sizeLine := by rw [← rv.length]; exact hz
  have hN2 := hN.keeps I1.bk
  have T2 := T.keeps I1.bk
  have fin : ∀ h' e2, Heap.MadeExcOf s2.heap h' e2 (.ref R) us → Q (.ref e2) { s2 with heap := h' } := fun h' e2 hx => k s2 H1 vs us h' e2 I1 q hx
  obtain ⟨hp, g, d, tk, os⟩ := s2
  refine wpAny_bind (wpAny_keeperOf_exc hC2 ?_)
  exact wpAny_bind (wpAny_call_exc_subT (hrest := hlen) PySem.F.excBase_ValueError T2 hC2 hN2 hni fun h' e2 hx => wpAny_bind (wpAny_holding (wpAny_point (wpAny_pure (fin h' e2 hx)))))
end
def LeavesH (X : Cx) (E : XK) : Prop := ∀ (pins : List (Addr × Obj)) (σ : St) (H : Hp) (s s' : Shared) (e : Addr) (cls : Value) (c : Option Addr) (B : Heap), Inv X pins σ H s → s'.os = s.os → AllBare s'.gens → (∀ b o, s.heap.get? b = some o → b ∉ frs X.stack → B.get? b = some o) →
  (∀ b o, s.heap.get? b = some o → b ∈ frs X.outer → ∃ sl, s'.heap.get? b = some { o with slots := sl }) → HldC B X.stack e cls c X.env.locals s'.heap → E cls c H → X.xe (.ref e) s'
section
variable {P : Program} {w : World} {K : PySem.W.Frag} {mg : Str → Option Value} {base : Heap} {N : List Str} {qual : Str} {scope : Scope} {f : Addr} {cd : Value} {A : Around} {outer : List Env} {s₀ : Shared} {H₀ : Hp} {E : XK}
theorem leavesH_cx : LeavesH (cxOf (CX1 P w) P w K mg base N qual scope f cd A outer s₀ H₀ E) E := by
  intro pins σ H s s' e cls c B I os bare hB hsl hld q
  have ne : ∀ b o, s₀.heap.get? b = some o → b ≠ s₀.heap.objs.size := fun b o e => Nat.ne_of_lt (Heap.lt_size e)
  have nf : ∀ b, b ∉ frs outer → b ≠ s₀.heap.objs.size → b ∉ frs (envOfC qual scope s₀.heap.objs.size f cd :: outer) := fun b h1 h2 z => by
    rcases List.mem_cons.mp (I.stkSub b z) with y | y
    · exact h2 y
    · exact h1 y
  have tk : ∀ b o, H b = some o → b ∉ frs (envOfC qual scope s₀.heap.objs.size f cd :: outer) := fun b o e z => by
    rw [I.stkFree b z] at e
    cases e
  show wpAny (model P w) (A.deeper (envOfC qual scope s₀.heap.objs.size f cd)) (leaving (envOfC qual scope s₀.heap.objs.size f cd) (.ref e)) (fun _ s'' => CX1 P w outer H₀ s₀ E (.ref e) s'') (fun e' s'' => CX1 P w outer H₀ s₀ E e' s'') s'
  refine leaveHeld rfl hld fun h'' fl up => ?_
  refine ⟨e, cls, c, B, H, rfl, os.trans I.os, bare, ⟨fun a o z => ?_, fun b o z n hb => ?_, fun b o z n => I.base.free b o z n (by intro y; cases y), fun b o z hb => ?_, I.base.tups, I.base.frzs, I.base.tbls⟩, fun b o z n hb => ?_, fl, q⟩
  · refine (I.hok a o z).stay (fun c v hc y => hB c v y ?_) (fun _ y => y) fun _ _ y => y
    rcases hc with y' | y'
    · rw [y']; exact tk a o z
    · exact tk c _ y'
  · exact hB b o (I.base.keep b o z n hb (by intro y; cases y)) (nf b hb (ne b o z))
  · obtain ⟨o', z'⟩ := I.base.there b o z (by intro y; cases y)
    exact ⟨o', hB b o' z' (nf b hb (ne b o z))⟩
  · obtain ⟨s1, q1⟩ := I.base.slot b o z n hb (by intro y; cases y)
    obtain ⟨s2, q2⟩ := hsl b _ q1 hb
    obtain ⟨_, o2, ho2, hd2⟩ := I.ok.funs.mem hb
    change s₀.heap.get? b = some o2 at ho2
    rw [z] at ho2
    cases ho2
    obtain ⟨s3, q3⟩ := up b _ q2 hd2
    exact ⟨s3, q3⟩
end
theorem Inv.grown {X : Cx} {pins : List (Addr × Obj)} {σ : St} {H : Hp} {s : Shared} {h' : Heap} (I : Inv X pins σ H s) (k : ∀ b o, s.heap.get? b = some o → h'.get? b = some o) : Inv X pins σ H { s with heap := h' } :=
  I.call' (ch := []) rfl ⟨fun b o q _ _ _ => k b o q, fun b o q _ _ _ => ⟨o.slots, k b o q⟩, fun _ _ _ n _ => n, fun b o q _ => ⟨o, k b o q⟩, fun _ _ q => q, fun _ _ _ q => q, fun _ ps q => ⟨#[], by rw [Array.append_empty]; exact q⟩⟩ (I.hok.kept k) I.bare fun b z => by cases z
theorem funFrames_put {base h h' : Heap} {a : Addr} {m : Str → Option Value} (hs : Heap.SameBut a h h') (hn : h'.Ns a m) : ∀ {l : List Env}, h.FunFrames base l → h'.FunFrames base l
  | [], _ => trivial
  | env :: _, ⟨hk, ⟨L, o, hf, hb, ho, hd⟩, hr⟩ => ⟨hk, by
      by_cases q : L = a
      · obtain ⟨o', es, ep, ho', hd', _⟩ := hn
        exact ⟨L, o', hf, hb, by rw [q]; exact ho', fun vs z => by rw [hd'] at z; cases z⟩
      · exact ⟨L, o, hf, hb, (hs.2 L q).trans ho, hd⟩, funFrames_put hs hn hr⟩
theorem HldC.put {base h h' : Heap} {l : List Env} {a e L : Addr} {cls : Value} {c : Option Addr} {m m' : Str → Option Value} (x : HldC base l e cls c L h) (hb : base.get? a = none) (h0 : h.Ns a m) (hs : Heap.SameBut a h h') (hn : h'.Ns a m') : HldC base l e cls c L h' := by
  obtain ⟨k1, k2, k3, oe, vs, T, oT, ts, he, hc, hd, h1, nT, nTe, hT, dT, h3⟩ := x
  obtain ⟨oa, es, ep, ha, hda, _⟩ := id h0
  have n1 : e ≠ a := fun z => by rw [z, ha] at he; cases he; rw [hda] at hd; cases hd
  have n2 : T ≠ a := fun z => by rw [z, ha] at hT; cases hT; rw [hda] at dT; cases dT
  exact ⟨fun b o q => (hs.2 b fun z => by rw [z, hb] at q; cases q).trans (k1 b o q), k2, funFrames_put hs hn k3, oe, vs, T, oT, ts, (hs.2 e n1).trans he, hc, hd, h1, nT, nTe, (hs.2 T n2).trans hT, dT, h3⟩
theorem backAt {M : Model} {A : Around} {E : Value → Shared → Prop} {s : Shared} {base : Heap} {l : List Env} {env : Env} {L e : Addr} {cls : Value} {c : Option Addr} {what : String} {Q : Unit → Shared → Prop} (hf : env.frame = some L) (x : HldC base l e cls c L s.heap) (h : ∀ h', HldC base l e cls c L h' → s.heap.UpToSlots h' → Q () { s with heap := h' }) :
    wpAny M A (do
      if (← field (.ref e) 1) == .none then unsupported what
      setFlight (.ref e) env.frame) Q E s := by
  obtain ⟨k1, k2, k3, tr⟩ := x
  obtain ⟨oe, vs, T, oT, ts, he, hc, hd, h1, nT, nTe, hT, dT, h3⟩ := id tr
  refine wpAny_bind (wpAny_field he hd h1 ?_)
  rw [if_neg (by intro z; cases z), hf]
  exact flightAt k1 k2 k3 tr h
def tHsF (K : PySem.W.Frag) (i : Nat) (C R : Addr) (E : XK) (t : TA) (tr : Value → Option Addr → TS) : Value → Option Addr → TS := fun cls c D σ H =>
  ∃ (B : Addr) (b : Bool), cls = .ref B ∧ B ≠ C ∧ PySem.W.kitOne K (.ref B) (.ref C) = some b ∧ if b = true then c = none ∧ XCls K B ∧ ∀ e, H e = none → t (σ.set i (some (.ref e))) (upd H e (excC B e)) (fun vs H1 => vs.length ≤ sizeLine ∧ H1 e = some (excC B e) ∧ E (.ref R) (some e) H1) else tr cls c D σ H
section
variable {X : Cx} {i : Nat} {n x y : Str} {C R : Addr} {np yp cpos rp rpos pos : Pos} {e₀ : Expr} {es : List Expr} {rest : List ExceptHandler} {t : TA} {tr : Value → Option Addr → TS} {E : XK}
theorem ph_from (hst : X.stack = X.env :: X.outer) (hfr : X.env.frame = some X.env.locals) (hL : LeavesH X E) (hN : X.N.Nodup) (hi : X.N[i]? = some n) (hkl : X.env.kindOf n = some .local) (hvis : Vis X.env.scope n) (hg : Gl X x) (hm : X.mg x = some (.ref C)) (hB : PySem.W.kitOne X.K (.ref C) (.type "BaseException") = some true)
    (hgy : Gl X y) (hmy : X.mg y = some (.ref R)) (hR : XCls X.K R) (ha : ∀ e, PA (XA X e).nox (e₀ :: es) t) (hr : PH X rest tr)
    (hd : (x == ("__debug__" : Str)) = false := by decide) (hdy : (y == ("__debug__" : Str)) = false := by decide) (hdn : (n == ("__debug__" : Str)) = false := by decide) (hcd : (n == ("__classdict__" : Str)) = false := by decide) (he : starEach (e₀ :: es) X.env = (false, eval e₀ X.env) :: starEach es X.env := by rfl) (hpl : (backTo cpos (starEach es X.env)).any (·.1) = false := by rfl) :
    PH X (.ExceptHandler (some (.Name x np)) (some n) [.Raise (some (.Call (.Name y yp) (e₀ :: es) [] cpos)) (some (.Name n rp)) rpos] pos :: rest) (tHsF X.K i C R E t tr) := by
  intro e cls c pins s σ H D F h
  have I := F.inv
  obtain ⟨o, he', hc⟩ := F.there
  refine wpAny_handleBy_cons (codeAny_handlers_test (ld_glob (X := XA X e) (I.caught e) hg hm ?_ hd)) (by intro z; cases z)
  obtain ⟨B, b, ec, nB, kB, q⟩ := h
  subst ec
  refine match_other I.kIn nB kB hB he' hc ?_
  cases b with
  | false => exact hr e (.ref B) c pins s σ H D F q
  | true =>
    obtain ⟨ec, hXB, qq⟩ := (show _ ∧ _ ∧ _ from q)
    subst ec
    have hq := qq e F.fresh
    refine codeAny_handlers_suite_as (F.again fun s' F' => ?_)
    have I' := F'.trackC
    refine store_ok (X := XA X e) (I'.caught e) hN hi (.inl hkl) (v := .ref e) rfl (fun s2 I2 => ?_) (.inr hkl)
    have hiσ : i < σ.length := by rw [I.len]; exact (List.getElem?_eq_some_iff.mp hi).1
    refine wpAny_execs_cons ?_
    rw [arm_exec_Raise]
    obtain ⟨tl, N1, nm, q1, bs, hdct, sn, sub, ab, col, dd, k0, k1, k2, k3, k5, mN, hCo, hN1, hni, T⟩ := own_obj I.mod.kin hR.ex
    obtain ⟨tl', N1', nm', q1', bs', hdct', sn', sub', ab', col', dd', k0', k1', k2', k3', k5', mN', hCo', hN1', hni', T'⟩ := own_obj I.mod.kin hXB.ex
    refine wpAny_bind (wpAny_standAt (raiseFrom (C := R) (D := B) (e := e) (nm := nm) (q := q1) (N := N1) (bs := bs) (bm := tl) (hdct := hdct) (sn := sn) (sub := sub) (ab := ab) (col := col) (dd := dd) (k0 := k0) (k1 := k1) (k2 := k2) (k3 := k3) (k5 := k5) (newId := "ValueError.__new__") (nm' := nm') (q' := q1') (N' := N1') (bs' := bs') (bm' := tl') (hdct' := hdct') (sn' := sn') (sub' := sub') (ab' := ab') (col' := col') (dd' := dd') (j0 := k0') (j1 := k1') (j2 := k2') (j3 := k3') (j5 := k5') (newId' := "ValueError.__new__") (T.hasType (by decide)) (T'.hasType (by decide)) rfl (wpAny_bind (evalMade (X := XA X e) I2 hgy hmy hR (ha e) hq (fun s3 H3 vs us h3 e2 I3 q3 hx => wpAny_bind (wpAny_standAt (wpAny_pure ?_))) hdy he hpl))))
    refine ⟨e2, rfl, ?_⟩
    have I4 := I3.grown hx.keeps
    obtain ⟨m, hn, hl⟩ := id I4.loc
    obtain ⟨u, ru, lu⟩ := hl i n (.ref e) hi (List.getElem?_set_self hiσ) hvis
    obtain rfl : u = .ref e := ru
    have hmn : m n = some (.ref e) := by
      rcases lu with ⟨_, z⟩ | ⟨k, _⟩
      · exact z
      · rcases k with k | k <;> (change X.env.kindOf n = _ at k; rw [hkl] at k; cases k)
    refine wpAny_bind (wpAny_Name (wpAny_loadName_local I.ok.kind hkl hn hmn (wpAny_bind (wpAny_standAt (wpAny_pure ?_)))) hdn)
    obtain ⟨⟨ox, ws, g1, g2, g3, g4⟩, _⟩ := (show ObjOk X.prog X.w H3 s3.heap e (excC B e) from I3.hok e _ q3.1)
    obtain ⟨tt, hee, _, _⟩ := hx.there
    have ne2 : e2 ≠ e := fun z => by have y := hx.new; rw [z, g1] at y; cases y
    refine ⟨tt, ox, ws, rfl, ne2, hx.keeps _ _ (I3.bk _ _ hCo), hx.keeps _ _ (I3.bk _ _ hCo'), hx.keeps _ _ g1, g2, g3, g4, hee, fun h' kk ke => ?_⟩
    have kAll : ∀ b o, s3.heap.get? b = some o → h'.get? b = some o := fun b o z => (kk b fun y => by rw [y, hx.new] at z; cases z).trans (hx.keeps b o z)
    have hin : ∀ env ∈ X.stack, ∀ b, env.frame = some b → b ∈ frs X.stack := fun env he b hb => List.mem_filterMap.mpr ⟨env, he, hb⟩
    have hst0 := PySem.W.funFrames_hide I3.stack hin
    have hk : (PySem.W.hideAll s3.heap (frs X.stack)).StaysIn s3.heap := fun b o z => PySem.W.of_hideAll _ z
    have hnew : (PySem.W.hideAll s3.heap (frs X.stack)).get? e2 = none := by
      cases z : (PySem.W.hideAll s3.heap (frs X.stack)).get? e2 with
      | none => rfl
      | some o' => have y := hk e2 o' z; rw [hx.new] at y; cases y
    have hBg : ∀ b o, s3.heap.get? b = some o → b ∉ frs X.stack → (PySem.W.hideAll s3.heap (frs X.stack)).get? b = some o := fun b o z hb => PySem.W.hideAll_get _ z hb
    have hloc : X.env.locals ∈ frs X.stack := hin X.env (by rw [hst]; exact .head _) _ hfr
    have hBl : (PySem.W.hideAll s3.heap (frs X.stack)).get? X.env.locals = none := PySem.W.hideAll_none _ hloc
    have frm : (X.A.mark (some (.ref e))).frames = some (X.env :: X.outer) := by rw [← hst]; exact I.ok.frames
    have nloc : ∀ b ∈ frs X.outer, b ≠ X.env.locals := fun b hb z => by
      obtain ⟨_, o, ho, _⟩ := I.ok.funs.mem hb
      have h1 := Heap.lt_size ho
      rw [z] at h1
      exact absurd h1 (Nat.not_lt.mpr I.ok.above)
    have nfl : ∀ b o, s3.heap.get? b = some o → b ∈ frs X.outer → ∀ vs, o.data ≠ .fields vs := fun b o z hb => by
      obtain ⟨_, o2, z2, hd2⟩ := hst0.mem (show b ∈ frs X.stack by rw [hst]; unfold frs; rw [List.filterMap_cons, hfr]; exact List.mem_cons_of_mem _ hb)
      rw [z] at z2; cases z2; exact hd2
    obtain ⟨m3, hn3, _⟩ := id I3.loc
    generalize PySem.W.hideAll s3.heap (frs X.stack) = B0 at hst0 hk hnew hBg hBl
    change s3.heap.FunFrames B0 X.stack at hst0
    rw [hst] at hst0
    refine noteNew (s := { s3 with heap := h' }) (c := some e) (base := B0) frm (hst0.of_keeps fun b o z _ => ⟨o, kAll b o z, rfl⟩) hfr ke (fun b o z => kAll b o (hk b o z)) hnew rfl rfl (by intro z; cases z) fun h4 hld up4 => ?_
    have hn4 : h4.Ns X.env.locals m3 := up4.ns (hn3.keeps kAll)
    refine wpAny_nameGoes (s := { s3 with heap := h4 }) hkl hn4 (by rw [I.ok.kind]; rfl) fun h5 m5 hn5 hs5 => ?_
    have hld5 := hld.put hBl hn4 hs5 hn5
    have hp : (PySem.passOn "try.except-as" (.ref e2) X.env : Sem Flow) = ((do
        if (← field (.ref e2) 1) == .none then unsupported "try.except-as:exception-without-traceback"
        setFlight (.ref e2) X.env.frame) >>= fun _ => throw (.ref e2)) := by
      unfold PySem.passOn
      simp only [bind_assoc]
      congr 1
      funext v
      by_cases hv : (v == Value.none) = true
      · simp only [hv, if_true]; rfl
      · simp only [hv]; rfl
    rw [hp]
    refine wpAny_bind (backAt (s := { s3 with heap := h5, toks := s3.toks + 1 }) hfr hld5 fun h6 hld6 up6 => wpAny_throw ?_)
    refine noteAgain hfr hld6.2.2.2 ?_
    refine backAt (s := { s3 with heap := h6, toks := s3.toks + 1 }) hfr hld6 fun h7 hld7 up7 => ?_
    refine hL pins _ H3 s3 _ e2 (.ref R) (some e) B0 (I3.uncaught I.ok) rfl I3.bare hBg (fun b o z hb => ?_) (by rw [hst]; exact hld7) q3.2
    obtain ⟨s4, z4⟩ := up4 b o (kAll b o z) (nfl b o z hb)
    have z5 := (hs5.2 b (nloc b hb)).trans z4
    obtain ⟨s6, z6⟩ := up6 b _ z5 (nfl b o z hb)
    obtain ⟨s7, z7⟩ := up7 b _ z6 (nfl b o z hb)
    exact ⟨s7, z7⟩
end
end L2
set_option Elab.async false
set_option linter.all false
set_option maxRecDepth 100000
set_option maxHeartbeats 4000000
namespace Law
open PySem L2 Com
def top (i : Nat) : Stmt := PySem.Challenge.pw_marblerun_k28_refusals_apart.main.body.getD i (.Pass ⟨0, 0, 0, 0⟩)
abbrev s_check_rows : Stmt := top 17
abbrev s_check_row : Stmt := top 18
abbrev s_check_site : Stmt := top 19
abbrev s_Binit : Stmt := inClass (top 20) 0
abbrev s_Bturn_to : Stmt := inClass (top 20) 1
abbrev s_Bload : Stmt := inClass (top 20) 2
abbrev s_Btwin : Stmt := inClass (top 20) 3
abbrev s_Bstand_like : Stmt := inClass (top 20) 4
abbrev s_reached : Stmt := top 22
abbrev s_is_open : Stmt := top 23
abbrev s_check_open : Stmt := top 24
abbrev s_last_exit : Stmt := top 25
abbrev s_is_tree : Stmt := top 26
abbrev s_step : Stmt := top 28
abbrev s_loaded : Stmt := top 29
abbrev s_run : Stmt := top 30
abbrev s_check_back : Stmt := top 32
abbrev s_run_back : Stmt := top 33
abbrev s_turn_back : Stmt := top 34
abbrev s_place_ahead : Stmt := top 35
abbrev s_leads_to : Stmt := top 36
abbrev s_read : Stmt := top 43
abbrev s_told : Stmt := top 44
abbrev s_read_head : Stmt := top 45
abbrev s_read_numbers : Stmt := top 46
abbrev s_read_row : Stmt := top 47
abbrev s_read_way : Stmt := top 48
abbrev s_read_number : Stmt := top 49
abbrev s_drawn : Stmt := top 51
abbrev s_marks : Stmt := top 52
abbrev s_deed : Stmt := top 53
abbrev s_law : Stmt := top 54
set_option genInjectivity false in
set_option genSizeOfSpec false in
structure Adr where
  C : Addr
  f_check_rows : Addr
  fd_check_rows : FuncData
  f_check_row : Addr
  fd_check_row : FuncData
  f_check_site : Addr
  fd_check_site : FuncData
  f_Binit : Addr
  fd_Binit : FuncData
  f_Bturn_to : Addr
  fd_Bturn_to : FuncData
  f_Bload : Addr
  fd_Bload : FuncData
  f_Btwin : Addr
  fd_Btwin : FuncData
  f_Bstand_like : Addr
  fd_Bstand_like : FuncData
  f_reached : Addr
  fd_reached : FuncData
  f_is_open : Addr
  fd_is_open : FuncData
  f_check_open : Addr
  fd_check_open : FuncData
  f_last_exit : Addr
  fd_last_exit : FuncData
  f_is_tree : Addr
  fd_is_tree : FuncData
  f_step : Addr
  fd_step : FuncData
  f_loaded : Addr
  fd_loaded : FuncData
  f_run : Addr
  fd_run : FuncData
  f_check_back : Addr
  fd_check_back : FuncData
  f_run_back : Addr
  fd_run_back : FuncData
  f_turn_back : Addr
  fd_turn_back : FuncData
  f_place_ahead : Addr
  fd_place_ahead : FuncData
  f_leads_to : Addr
  fd_leads_to : FuncData
  f_read : Addr
  fd_read : FuncData
  f_told : Addr
  fd_told : FuncData
  f_read_head : Addr
  fd_read_head : FuncData
  f_read_numbers : Addr
  fd_read_numbers : FuncData
  f_read_row : Addr
  fd_read_row : FuncData
  f_read_way : Addr
  fd_read_way : FuncData
  f_read_number : Addr
  fd_read_number : FuncData
  f_drawn : Addr
  fd_drawn : FuncData
  f_marks : Addr
  fd_marks : FuncData
  f_deed : Addr
  fd_deed : FuncData
  f_law : Addr
  fd_law : FuncData
  t_PIT : Tok
  t_MOST_SITES : Tok
  t_MOST_EXITS : Tok
  t_MOST_MARBLES : Tok
  t_HEAD : Tok
  t_MARK : Tok
  t_PIT_WORD : Tok
  t_FIGURES : Tok
  t_MOST_FIGURES : Tok
  c_NoPlace : Addr
  c_NoSite : Addr
  c_NoExit : Addr
  c_NoMarble : Addr
  c_TooMany : Addr
  c_NotOpen : Addr
  c_NotBare : Addr
  c_NotTree : Addr
  c_TooLong : Addr
  c_NoBoard : Addr
  c_BoardError : Addr
structure Txt (K : PySem.W.Frag) (mg : Str → Option Value) (A : Adr) : Prop where
  F_check_rows : Fun K "check_rows" "check_rows" s_check_rows A.f_check_rows A.fd_check_rows
  m_check_rows : mg "check_rows" = some (.ref A.f_check_rows)
  k_check_rows : PySem.W.keepIn K (.ref A.f_check_rows) = true
  b_check_rows : Binds K A.fd_check_rows ["rows"] []
  F_check_row : Fun K "check_row" "check_row" s_check_row A.f_check_row A.fd_check_row
  m_check_row : mg "check_row" = some (.ref A.f_check_row)
  k_check_row : PySem.W.keepIn K (.ref A.f_check_row) = true
  b_check_row : Binds K A.fd_check_row ["row", "sites"] []
  F_check_site : Fun K "check_site" "check_site" s_check_site A.f_check_site A.fd_check_site
  m_check_site : mg "check_site" = some (.ref A.f_check_site)
  k_check_site : PySem.W.keepIn K (.ref A.f_check_site) = true
  b_check_site : Binds K A.fd_check_site ["board", "at"] []
  F_Binit : Fun K "__init__" "Board.__init__" s_Binit A.f_Binit A.fd_Binit
  mk_Board : Mk K A.C A.f_Binit
  bi_Board : Binds K A.fd_Binit ["self", "rows"] []
  F_Bturn_to : Fun K "turn_to" "Board.turn_to" s_Bturn_to A.f_Bturn_to A.fd_Bturn_to
  mt_turn_to : Meth K A.C "turn_to" A.f_Bturn_to
  bm_turn_to : Binds K A.fd_Bturn_to ["self", "at", "place"] []
  F_Bload : Fun K "load" "Board.load" s_Bload A.f_Bload A.fd_Bload
  mt_load : Meth K A.C "load" A.f_Bload
  bm_load : Binds K A.fd_Bload ["self", "at", "many"] []
  F_Btwin : Fun K "twin" "Board.twin" s_Btwin A.f_Btwin A.fd_Btwin
  mt_twin : Meth K A.C "twin" A.f_Btwin
  bm_twin : Binds K A.fd_Btwin ["self"] []
  F_Bstand_like : Fun K "stand_like" "Board.stand_like" s_Bstand_like A.f_Bstand_like A.fd_Bstand_like
  mt_stand_like : Meth K A.C "stand_like" A.f_Bstand_like
  bm_stand_like : Binds K A.fd_Bstand_like ["self", "other"] []
  F_reached : Fun K "reached" "reached" s_reached A.f_reached A.fd_reached
  m_reached : mg "reached" = some (.ref A.f_reached)
  k_reached : PySem.W.keepIn K (.ref A.f_reached) = true
  b_reached : Binds K A.fd_reached ["rows"] []
  F_is_open : Fun K "is_open" "is_open" s_is_open A.f_is_open A.fd_is_open
  m_is_open : mg "is_open" = some (.ref A.f_is_open)
  k_is_open : PySem.W.keepIn K (.ref A.f_is_open) = true
  b_is_open : Binds K A.fd_is_open ["board"] []
  F_check_open : Fun K "check_open" "check_open" s_check_open A.f_check_open A.fd_check_open
  m_check_open : mg "check_open" = some (.ref A.f_check_open)
  k_check_open : PySem.W.keepIn K (.ref A.f_check_open) = true
  b_check_open : Binds K A.fd_check_open ["board"] []
  F_last_exit : Fun K "last_exit" "last_exit" s_last_exit A.f_last_exit A.fd_last_exit
  m_last_exit : mg "last_exit" = some (.ref A.f_last_exit)
  k_last_exit : PySem.W.keepIn K (.ref A.f_last_exit) = true
  b_last_exit : Binds K A.fd_last_exit ["board", "at"] []
  F_is_tree : Fun K "is_tree" "is_tree" s_is_tree A.f_is_tree A.fd_is_tree
  m_is_tree : mg "is_tree" = some (.ref A.f_is_tree)
  k_is_tree : PySem.W.keepIn K (.ref A.f_is_tree) = true
  b_is_tree : Binds K A.fd_is_tree ["board"] []
  F_step : Fun K "step" "step" s_step A.f_step A.fd_step
  m_step : mg "step" = some (.ref A.f_step)
  k_step : PySem.W.keepIn K (.ref A.f_step) = true
  b_step : Binds K A.fd_step ["board", "at"] []
  F_loaded : Fun K "loaded" "loaded" s_loaded A.f_loaded A.fd_loaded
  m_loaded : mg "loaded" = some (.ref A.f_loaded)
  k_loaded : PySem.W.keepIn K (.ref A.f_loaded) = true
  b_loaded : Binds K A.fd_loaded ["board"] []
  F_run : Fun K "run" "run" s_run A.f_run A.fd_run
  m_run : mg "run" = some (.ref A.f_run)
  k_run : PySem.W.keepIn K (.ref A.f_run) = true
  b_run : Binds K A.fd_run ["board", "most"] []
  F_check_back : Fun K "check_back" "check_back" s_check_back A.f_check_back A.fd_check_back
  m_check_back : mg "check_back" = some (.ref A.f_check_back)
  k_check_back : PySem.W.keepIn K (.ref A.f_check_back) = true
  b_check_back : Binds K A.fd_check_back ["board", "at"] []
  F_run_back : Fun K "run_back" "run_back" s_run_back A.f_run_back A.fd_run_back
  m_run_back : mg "run_back" = some (.ref A.f_run_back)
  k_run_back : PySem.W.keepIn K (.ref A.f_run_back) = true
  b_run_back : Binds K A.fd_run_back ["board", "at", "most"] []
  F_turn_back : Fun K "turn_back" "turn_back" s_turn_back A.f_turn_back A.fd_turn_back
  m_turn_back : mg "turn_back" = some (.ref A.f_turn_back)
  k_turn_back : PySem.W.keepIn K (.ref A.f_turn_back) = true
  b_turn_back : Binds K A.fd_turn_back ["board", "start", "most"] []
  F_place_ahead : Fun K "place_ahead" "place_ahead" s_place_ahead A.f_place_ahead A.fd_place_ahead
  m_place_ahead : mg "place_ahead" = some (.ref A.f_place_ahead)
  k_place_ahead : PySem.W.keepIn K (.ref A.f_place_ahead) = true
  b_place_ahead : Binds K A.fd_place_ahead ["board", "start", "goal"] []
  F_leads_to : Fun K "leads_to" "leads_to" s_leads_to A.f_leads_to A.fd_leads_to
  m_leads_to : mg "leads_to" = some (.ref A.f_leads_to)
  k_leads_to : PySem.W.keepIn K (.ref A.f_leads_to) = true
  b_leads_to : Binds K A.fd_leads_to ["board", "start", "here"] []
  F_read : Fun K "read" "read" s_read A.f_read A.fd_read
  m_read : mg "read" = some (.ref A.f_read)
  k_read : PySem.W.keepIn K (.ref A.f_read) = true
  b_read : Binds K A.fd_read ["text"] []
  F_told : Fun K "told" "told" s_told A.f_told A.fd_told
  m_told : mg "told" = some (.ref A.f_told)
  k_told : PySem.W.keepIn K (.ref A.f_told) = true
  b_told : Binds K A.fd_told ["rows", "numbers"] []
  F_read_head : Fun K "read_head" "read_head" s_read_head A.f_read_head A.fd_read_head
  m_read_head : mg "read_head" = some (.ref A.f_read_head)
  k_read_head : PySem.W.keepIn K (.ref A.f_read_head) = true
  b_read_head : Binds K A.fd_read_head ["words"] []
  F_read_numbers : Fun K "read_numbers" "read_numbers" s_read_numbers A.f_read_numbers A.fd_read_numbers
  m_read_numbers : mg "read_numbers" = some (.ref A.f_read_numbers)
  k_read_numbers : PySem.W.keepIn K (.ref A.f_read_numbers) = true
  b_read_numbers : Binds K A.fd_read_numbers ["words"] []
  F_read_row : Fun K "read_row" "read_row" s_read_row A.f_read_row A.fd_read_row
  m_read_row : mg "read_row" = some (.ref A.f_read_row)
  k_read_row : PySem.W.keepIn K (.ref A.f_read_row) = true
  b_read_row : Binds K A.fd_read_row ["words"] []
  F_read_way : Fun K "read_way" "read_way" s_read_way A.f_read_way A.fd_read_way
  m_read_way : mg "read_way" = some (.ref A.f_read_way)
  k_read_way : PySem.W.keepIn K (.ref A.f_read_way) = true
  b_read_way : Binds K A.fd_read_way ["word"] []
  F_read_number : Fun K "read_number" "read_number" s_read_number A.f_read_number A.fd_read_number
  m_read_number : mg "read_number" = some (.ref A.f_read_number)
  k_read_number : PySem.W.keepIn K (.ref A.f_read_number) = true
  b_read_number : Binds K A.fd_read_number ["word"] []
  F_drawn : Fun K "_law_drawn" "_law_drawn" s_drawn A.f_drawn A.fd_drawn
  m__law_drawn : mg "_law_drawn" = some (.ref A.f_drawn)
  k__law_drawn : PySem.W.keepIn K (.ref A.f_drawn) = true
  b__law_drawn : Binds K A.fd_drawn ["script", "k", "many"] []
  F_marks : Fun K "_law_marks" "_law_marks" s_marks A.f_marks A.fd_marks
  m__law_marks : mg "_law_marks" = some (.ref A.f_marks)
  k__law_marks : PySem.W.keepIn K (.ref A.f_marks) = true
  b__law_marks : Binds K A.fd_marks ["e"] []
  F_deed : Fun K "_law_deed" "_law_deed" s_deed A.f_deed A.fd_deed
  m__law_deed : mg "_law_deed" = some (.ref A.f_deed)
  k__law_deed : PySem.W.keepIn K (.ref A.f_deed) = true
  b__law_deed : Binds K A.fd_deed ["board", "way", "at", "size"] []
  F_law : Fun K "law" "law" s_law A.f_law A.fd_law
  m_law : mg "law" = some (.ref A.f_law)
  k_law : PySem.W.keepIn K (.ref A.f_law) = true
  b_law : Binds K A.fd_law ["script"] []
  m_Board : mg "Board" = some (.ref A.C)
  cl_Board : Cls K A.C
  na_rows : NoAttr K A.C "rows"
  na_turns : NoAttr K A.C "turns"
  na_loads : NoAttr K A.C "loads"
  na_steps : NoAttr K A.C "steps"
  na_taken : NoAttr K A.C "taken"
  n_len : mg "len" = none
  n_range : mg "range" = none
  n_isinstance : mg "isinstance" = none
  n_int : mg "int" = none
  n_list : mg "list" = none
  n_sum : mg "sum" = none
  n_all : mg "all" = none
  n_any : mg "any" = none
  n_enumerate : mg "enumerate" = none
  n_str : mg "str" = none
  n_ValueError : mg "ValueError" = none
  g_PIT : mg "PIT" = some (.int (-1) A.t_PIT)
  g_MOST_SITES : mg "MOST_SITES" = some (.int (12) A.t_MOST_SITES)
  g_MOST_EXITS : mg "MOST_EXITS" = some (.int (8) A.t_MOST_EXITS)
  g_MOST_MARBLES : mg "MOST_MARBLES" = some (.int (400) A.t_MOST_MARBLES)
  g_HEAD : mg "HEAD" = some (.str "board" A.t_HEAD)
  g_MARK : mg "MARK" = some (.str ">" A.t_MARK)
  g_PIT_WORD : mg "PIT_WORD" = some (.str "pit" A.t_PIT_WORD)
  g_FIGURES : mg "FIGURES" = some (.str "0123456789" A.t_FIGURES)
  g_MOST_FIGURES : mg "MOST_FIGURES" = some (.int (20) A.t_MOST_FIGURES)
  m_NoPlace : mg "NoPlace" = some (.ref A.c_NoPlace)
  x_NoPlace : XCls K A.c_NoPlace
  kb_NoPlace : PySem.W.kitOne K (.ref A.c_NoPlace) (.type "BaseException") = some true
  m_NoSite : mg "NoSite" = some (.ref A.c_NoSite)
  x_NoSite : XCls K A.c_NoSite
  kb_NoSite : PySem.W.kitOne K (.ref A.c_NoSite) (.type "BaseException") = some true
  m_NoExit : mg "NoExit" = some (.ref A.c_NoExit)
  x_NoExit : XCls K A.c_NoExit
  kb_NoExit : PySem.W.kitOne K (.ref A.c_NoExit) (.type "BaseException") = some true
  m_NoMarble : mg "NoMarble" = some (.ref A.c_NoMarble)
  x_NoMarble : XCls K A.c_NoMarble
  kb_NoMarble : PySem.W.kitOne K (.ref A.c_NoMarble) (.type "BaseException") = some true
  m_TooMany : mg "TooMany" = some (.ref A.c_TooMany)
  x_TooMany : XCls K A.c_TooMany
  kb_TooMany : PySem.W.kitOne K (.ref A.c_TooMany) (.type "BaseException") = some true
  m_NotOpen : mg "NotOpen" = some (.ref A.c_NotOpen)
  x_NotOpen : XCls K A.c_NotOpen
  kb_NotOpen : PySem.W.kitOne K (.ref A.c_NotOpen) (.type "BaseException") = some true
  m_NotBare : mg "NotBare" = some (.ref A.c_NotBare)
  x_NotBare : XCls K A.c_NotBare
  kb_NotBare : PySem.W.kitOne K (.ref A.c_NotBare) (.type "BaseException") = some true
  m_NotTree : mg "NotTree" = some (.ref A.c_NotTree)
  x_NotTree : XCls K A.c_NotTree
  kb_NotTree : PySem.W.kitOne K (.ref A.c_NotTree) (.type "BaseException") = some true
  m_TooLong : mg "TooLong" = some (.ref A.c_TooLong)
  x_TooLong : XCls K A.c_TooLong
  kb_TooLong : PySem.W.kitOne K (.ref A.c_TooLong) (.type "BaseException") = some true
  m_NoBoard : mg "NoBoard" = some (.ref A.c_NoBoard)
  x_NoBoard : XCls K A.c_NoBoard
  kb_NoBoard : PySem.W.kitOne K (.ref A.c_NoBoard) (.type "BaseException") = some true
  m_BoardError : mg "BoardError" = some (.ref A.c_BoardError)
  x_BoardError : XCls K A.c_BoardError
  kb_BoardError : PySem.W.kitOne K (.ref A.c_BoardError) (.type "BaseException") = some true
  p_NoPlace_BoardError : PySem.W.kitOne K (.ref A.c_NoPlace) (.ref A.c_BoardError) = some true
  ne_NoPlace_BoardError : A.c_NoPlace ≠ A.c_BoardError
  p_NoSite_BoardError : PySem.W.kitOne K (.ref A.c_NoSite) (.ref A.c_BoardError) = some true
  ne_NoSite_BoardError : A.c_NoSite ≠ A.c_BoardError
  p_NoExit_BoardError : PySem.W.kitOne K (.ref A.c_NoExit) (.ref A.c_BoardError) = some true
  ne_NoExit_BoardError : A.c_NoExit ≠ A.c_BoardError
  p_NoMarble_BoardError : PySem.W.kitOne K (.ref A.c_NoMarble) (.ref A.c_BoardError) = some true
  ne_NoMarble_BoardError : A.c_NoMarble ≠ A.c_BoardError
  p_TooMany_BoardError : PySem.W.kitOne K (.ref A.c_TooMany) (.ref A.c_BoardError) = some true
  ne_TooMany_BoardError : A.c_TooMany ≠ A.c_BoardError
  p_NotOpen_BoardError : PySem.W.kitOne K (.ref A.c_NotOpen) (.ref A.c_BoardError) = some true
  ne_NotOpen_BoardError : A.c_NotOpen ≠ A.c_BoardError
  p_NotBare_BoardError : PySem.W.kitOne K (.ref A.c_NotBare) (.ref A.c_BoardError) = some true
  ne_NotBare_BoardError : A.c_NotBare ≠ A.c_BoardError
  p_NotTree_BoardError : PySem.W.kitOne K (.ref A.c_NotTree) (.ref A.c_BoardError) = some true
  ne_NotTree_BoardError : A.c_NotTree ≠ A.c_BoardError
  p_TooLong_BoardError : PySem.W.kitOne K (.ref A.c_TooLong) (.ref A.c_BoardError) = some true
  ne_TooLong_BoardError : A.c_TooLong ≠ A.c_BoardError
  p_NoBoard_BoardError : PySem.W.kitOne K (.ref A.c_NoBoard) (.ref A.c_BoardError) = some true
  ne_NoBoard_BoardError : A.c_NoBoard ≠ A.c_BoardError
  p_NoPlace_NoSite : PySem.W.kitOne K (.ref A.c_NoPlace) (.ref A.c_NoSite) = some false
  ne_NoPlace_NoSite : A.c_NoPlace ≠ A.c_NoSite
  p_NoPlace_NoExit : PySem.W.kitOne K (.ref A.c_NoPlace) (.ref A.c_NoExit) = some false
  ne_NoPlace_NoExit : A.c_NoPlace ≠ A.c_NoExit
  p_NoPlace_NoMarble : PySem.W.kitOne K (.ref A.c_NoPlace) (.ref A.c_NoMarble) = some false
  ne_NoPlace_NoMarble : A.c_NoPlace ≠ A.c_NoMarble
  p_NoPlace_TooMany : PySem.W.kitOne K (.ref A.c_NoPlace) (.ref A.c_TooMany) = some false
  ne_NoPlace_TooMany : A.c_NoPlace ≠ A.c_TooMany
  p_NoPlace_NotOpen : PySem.W.kitOne K (.ref A.c_NoPlace) (.ref A.c_NotOpen) = some false
  ne_NoPlace_NotOpen : A.c_NoPlace ≠ A.c_NotOpen
  p_NoPlace_NotBare : PySem.W.kitOne K (.ref A.c_NoPlace) (.ref A.c_NotBare) = some false
  ne_NoPlace_NotBare : A.c_NoPlace ≠ A.c_NotBare
  p_NoPlace_NotTree : PySem.W.kitOne K (.ref A.c_NoPlace) (.ref A.c_NotTree) = some false
  ne_NoPlace_NotTree : A.c_NoPlace ≠ A.c_NotTree
  p_NoPlace_TooLong : PySem.W.kitOne K (.ref A.c_NoPlace) (.ref A.c_TooLong) = some false
  ne_NoPlace_TooLong : A.c_NoPlace ≠ A.c_TooLong
  p_NoPlace_NoBoard : PySem.W.kitOne K (.ref A.c_NoPlace) (.ref A.c_NoBoard) = some false
  ne_NoPlace_NoBoard : A.c_NoPlace ≠ A.c_NoBoard
  p_NoSite_NoPlace : PySem.W.kitOne K (.ref A.c_NoSite) (.ref A.c_NoPlace) = some false
  ne_NoSite_NoPlace : A.c_NoSite ≠ A.c_NoPlace
  p_NoSite_NoExit : PySem.W.kitOne K (.ref A.c_NoSite) (.ref A.c_NoExit) = some false
  ne_NoSite_NoExit : A.c_NoSite ≠ A.c_NoExit
  p_NoSite_NoMarble : PySem.W.kitOne K (.ref A.c_NoSite) (.ref A.c_NoMarble) = some false
  ne_NoSite_NoMarble : A.c_NoSite ≠ A.c_NoMarble
  p_NoSite_TooMany : PySem.W.kitOne K (.ref A.c_NoSite) (.ref A.c_TooMany) = some false
  ne_NoSite_TooMany : A.c_NoSite ≠ A.c_TooMany
  p_NoSite_NotOpen : PySem.W.kitOne K (.ref A.c_NoSite) (.ref A.c_NotOpen) = some false
  ne_NoSite_NotOpen : A.c_NoSite ≠ A.c_NotOpen
  p_NoSite_NotBare : PySem.W.kitOne K (.ref A.c_NoSite) (.ref A.c_NotBare) = some false
  ne_NoSite_NotBare : A.c_NoSite ≠ A.c_NotBare
  p_NoSite_NotTree : PySem.W.kitOne K (.ref A.c_NoSite) (.ref A.c_NotTree) = some false
  ne_NoSite_NotTree : A.c_NoSite ≠ A.c_NotTree
  p_NoSite_TooLong : PySem.W.kitOne K (.ref A.c_NoSite) (.ref A.c_TooLong) = some false
  ne_NoSite_TooLong : A.c_NoSite ≠ A.c_TooLong
  p_NoSite_NoBoard : PySem.W.kitOne K (.ref A.c_NoSite) (.ref A.c_NoBoard) = some false
  ne_NoSite_NoBoard : A.c_NoSite ≠ A.c_NoBoard
  p_NoExit_NoPlace : PySem.W.kitOne K (.ref A.c_NoExit) (.ref A.c_NoPlace) = some false
  ne_NoExit_NoPlace : A.c_NoExit ≠ A.c_NoPlace
  p_NoExit_NoSite : PySem.W.kitOne K (.ref A.c_NoExit) (.ref A.c_NoSite) = some false
  ne_NoExit_NoSite : A.c_NoExit ≠ A.c_NoSite
  p_NoExit_NoMarble : PySem.W.kitOne K (.ref A.c_NoExit) (.ref A.c_NoMarble) = some false
  ne_NoExit_NoMarble : A.c_NoExit ≠ A.c_NoMarble
  p_NoExit_TooMany : PySem.W.kitOne K (.ref A.c_NoExit) (.ref A.c_TooMany) = some false
  ne_NoExit_TooMany : A.c_NoExit ≠ A.c_TooMany
  p_NoExit_NotOpen : PySem.W.kitOne K (.ref A.c_NoExit) (.ref A.c_NotOpen) = some false
  ne_NoExit_NotOpen : A.c_NoExit ≠ A.c_NotOpen
  p_NoExit_NotBare : PySem.W.kitOne K (.ref A.c_NoExit) (.ref A.c_NotBare) = some false
  ne_NoExit_NotBare : A.c_NoExit ≠ A.c_NotBare
  p_NoExit_NotTree : PySem.W.kitOne K (.ref A.c_NoExit) (.ref A.c_NotTree) = some false
  ne_NoExit_NotTree : A.c_NoExit ≠ A.c_NotTree
  p_NoExit_TooLong : PySem.W.kitOne K (.ref A.c_NoExit) (.ref A.c_TooLong) = some false
  ne_NoExit_TooLong : A.c_NoExit ≠ A.c_TooLong
  p_NoExit_NoBoard : PySem.W.kitOne K (.ref A.c_NoExit) (.ref A.c_NoBoard) = some false
  ne_NoExit_NoBoard : A.c_NoExit ≠ A.c_NoBoard
  p_NoMarble_NoPlace : PySem.W.kitOne K (.ref A.c_NoMarble) (.ref A.c_NoPlace) = some false
  ne_NoMarble_NoPlace : A.c_NoMarble ≠ A.c_NoPlace
  p_NoMarble_NoSite : PySem.W.kitOne K (.ref A.c_NoMarble) (.ref A.c_NoSite) = some false
  ne_NoMarble_NoSite : A.c_NoMarble ≠ A.c_NoSite
  p_NoMarble_NoExit : PySem.W.kitOne K (.ref A.c_NoMarble) (.ref A.c_NoExit) = some false
  ne_NoMarble_NoExit : A.c_NoMarble ≠ A.c_NoExit
  p_NoMarble_TooMany : PySem.W.kitOne K (.ref A.c_NoMarble) (.ref A.c_TooMany) = some false
  ne_NoMarble_TooMany : A.c_NoMarble ≠ A.c_TooMany
  p_NoMarble_NotOpen : PySem.W.kitOne K (.ref A.c_NoMarble) (.ref A.c_NotOpen) = some false
  ne_NoMarble_NotOpen : A.c_NoMarble ≠ A.c_NotOpen
  p_NoMarble_NotBare : PySem.W.kitOne K (.ref A.c_NoMarble) (.ref A.c_NotBare) = some false
  ne_NoMarble_NotBare : A.c_NoMarble ≠ A.c_NotBare
  p_NoMarble_NotTree : PySem.W.kitOne K (.ref A.c_NoMarble) (.ref A.c_NotTree) = some false
  ne_NoMarble_NotTree : A.c_NoMarble ≠ A.c_NotTree
  p_NoMarble_TooLong : PySem.W.kitOne K (.ref A.c_NoMarble) (.ref A.c_TooLong) = some false
  ne_NoMarble_TooLong : A.c_NoMarble ≠ A.c_TooLong
  p_NoMarble_NoBoard : PySem.W.kitOne K (.ref A.c_NoMarble) (.ref A.c_NoBoard) = some false
  ne_NoMarble_NoBoard : A.c_NoMarble ≠ A.c_NoBoard
  p_TooMany_NoPlace : PySem.W.kitOne K (.ref A.c_TooMany) (.ref A.c_NoPlace) = some false
  ne_TooMany_NoPlace : A.c_TooMany ≠ A.c_NoPlace
  p_TooMany_NoSite : PySem.W.kitOne K (.ref A.c_TooMany) (.ref A.c_NoSite) = some false
  ne_TooMany_NoSite : A.c_TooMany ≠ A.c_NoSite
  p_TooMany_NoExit : PySem.W.kitOne K (.ref A.c_TooMany) (.ref A.c_NoExit) = some false
  ne_TooMany_NoExit : A.c_TooMany ≠ A.c_NoExit
  p_TooMany_NoMarble : PySem.W.kitOne K (.ref A.c_TooMany) (.ref A.c_NoMarble) = some false
  ne_TooMany_NoMarble : A.c_TooMany ≠ A.c_NoMarble
  p_TooMany_NotOpen : PySem.W.kitOne K (.ref A.c_TooMany) (.ref A.c_NotOpen) = some false
  ne_TooMany_NotOpen : A.c_TooMany ≠ A.c_NotOpen
  p_TooMany_NotBare : PySem.W.kitOne K (.ref A.c_TooMany) (.ref A.c_NotBare) = some false
  ne_TooMany_NotBare : A.c_TooMany ≠ A.c_NotBare
  p_TooMany_NotTree : PySem.W.kitOne K (.ref A.c_TooMany) (.ref A.c_NotTree) = some false
  ne_TooMany_NotTree : A.c_TooMany ≠ A.c_NotTree
  p_TooMany_TooLong : PySem.W.kitOne K (.ref A.c_TooMany) (.ref A.c_TooLong) = some false
  ne_TooMany_TooLong : A.c_TooMany ≠ A.c_TooLong
  p_TooMany_NoBoard : PySem.W.kitOne K (.ref A.c_TooMany) (.ref A.c_NoBoard) = some false
  ne_TooMany_NoBoard : A.c_TooMany ≠ A.c_NoBoard
  p_NotOpen_NoPlace : PySem.W.kitOne K (.ref A.c_NotOpen) (.ref A.c_NoPlace) = some false
  ne_NotOpen_NoPlace : A.c_NotOpen ≠ A.c_NoPlace
  p_NotOpen_NoSite : PySem.W.kitOne K (.ref A.c_NotOpen) (.ref A.c_NoSite) = some false
  ne_NotOpen_NoSite : A.c_NotOpen ≠ A.c_NoSite
  p_NotOpen_NoExit : PySem.W.kitOne K (.ref A.c_NotOpen) (.ref A.c_NoExit) = some false
  ne_NotOpen_NoExit : A.c_NotOpen ≠ A.c_NoExit
  p_NotOpen_NoMarble : PySem.W.kitOne K (.ref A.c_NotOpen) (.ref A.c_NoMarble) = some false
  ne_NotOpen_NoMarble : A.c_NotOpen ≠ A.c_NoMarble
  p_NotOpen_TooMany : PySem.W.kitOne K (.ref A.c_NotOpen) (.ref A.c_TooMany) = some false
  ne_NotOpen_TooMany : A.c_NotOpen ≠ A.c_TooMany
  p_NotOpen_NotBare : PySem.W.kitOne K (.ref A.c_NotOpen) (.ref A.c_NotBare) = some false
  ne_NotOpen_NotBare : A.c_NotOpen ≠ A.c_NotBare
  p_NotOpen_NotTree : PySem.W.kitOne K (.ref A.c_NotOpen) (.ref A.c_NotTree) = some false
  ne_NotOpen_NotTree : A.c_NotOpen ≠ A.c_NotTree
  p_NotOpen_TooLong : PySem.W.kitOne K (.ref A.c_NotOpen) (.ref A.c_TooLong) = some false
  ne_NotOpen_TooLong : A.c_NotOpen ≠ A.c_TooLong
  p_NotOpen_NoBoard : PySem.W.kitOne K (.ref A.c_NotOpen) (.ref A.c_NoBoard) = some false
  ne_NotOpen_NoBoard : A.c_NotOpen ≠ A.c_NoBoard
  p_NotBare_NoPlace : PySem.W.kitOne K (.ref A.c_NotBare) (.ref A.c_NoPlace) = some false
  ne_NotBare_NoPlace : A.c_NotBare ≠ A.c_NoPlace
  p_NotBare_NoSite : PySem.W.kitOne K (.ref A.c_NotBare) (.ref A.c_NoSite) = some false
  ne_NotBare_NoSite : A.c_NotBare ≠ A.c_NoSite
  p_NotBare_NoExit : PySem.W.kitOne K (.ref A.c_NotBare) (.ref A.c_NoExit) = some false
  ne_NotBare_NoExit : A.c_NotBare ≠ A.c_NoExit
  p_NotBare_NoMarble : PySem.W.kitOne K (.ref A.c_NotBare) (.ref A.c_NoMarble) = some false
  ne_NotBare_NoMarble : A.c_NotBare ≠ A.c_NoMarble
  p_NotBare_TooMany : PySem.W.kitOne K (.ref A.c_NotBare) (.ref A.c_TooMany) = some false
  ne_NotBare_TooMany : A.c_NotBare ≠ A.c_TooMany
  p_NotBare_NotOpen : PySem.W.kitOne K (.ref A.c_NotBare) (.ref A.c_NotOpen) = some false
  ne_NotBare_NotOpen : A.c_NotBare ≠ A.c_NotOpen
  p_NotBare_NotTree : PySem.W.kitOne K (.ref A.c_NotBare) (.ref A.c_NotTree) = some false
  ne_NotBare_NotTree : A.c_NotBare ≠ A.c_NotTree
  p_NotBare_TooLong : PySem.W.kitOne K (.ref A.c_NotBare) (.ref A.c_TooLong) = some false
  ne_NotBare_TooLong : A.c_NotBare ≠ A.c_TooLong
  p_NotBare_NoBoard : PySem.W.kitOne K (.ref A.c_NotBare) (.ref A.c_NoBoard) = some false
  ne_NotBare_NoBoard : A.c_NotBare ≠ A.c_NoBoard
  p_NotTree_NoPlace : PySem.W.kitOne K (.ref A.c_NotTree) (.ref A.c_NoPlace) = some false
  ne_NotTree_NoPlace : A.c_NotTree ≠ A.c_NoPlace
  p_NotTree_NoSite : PySem.W.kitOne K (.ref A.c_NotTree) (.ref A.c_NoSite) = some false
  ne_NotTree_NoSite : A.c_NotTree ≠ A.c_NoSite
  p_NotTree_NoExit : PySem.W.kitOne K (.ref A.c_NotTree) (.ref A.c_NoExit) = some false
  ne_NotTree_NoExit : A.c_NotTree ≠ A.c_NoExit
  p_NotTree_NoMarble : PySem.W.kitOne K (.ref A.c_NotTree) (.ref A.c_NoMarble) = some false
  ne_NotTree_NoMarble : A.c_NotTree ≠ A.c_NoMarble
  p_NotTree_TooMany : PySem.W.kitOne K (.ref A.c_NotTree) (.ref A.c_TooMany) = some false
  ne_NotTree_TooMany : A.c_NotTree ≠ A.c_TooMany
  p_NotTree_NotOpen : PySem.W.kitOne K (.ref A.c_NotTree) (.ref A.c_NotOpen) = some false
  ne_NotTree_NotOpen : A.c_NotTree ≠ A.c_NotOpen
  p_NotTree_NotBare : PySem.W.kitOne K (.ref A.c_NotTree) (.ref A.c_NotBare) = some false
  ne_NotTree_NotBare : A.c_NotTree ≠ A.c_NotBare
  p_NotTree_TooLong : PySem.W.kitOne K (.ref A.c_NotTree) (.ref A.c_TooLong) = some false
  ne_NotTree_TooLong : A.c_NotTree ≠ A.c_TooLong
  p_NotTree_NoBoard : PySem.W.kitOne K (.ref A.c_NotTree) (.ref A.c_NoBoard) = some false
  ne_NotTree_NoBoard : A.c_NotTree ≠ A.c_NoBoard
  p_TooLong_NoPlace : PySem.W.kitOne K (.ref A.c_TooLong) (.ref A.c_NoPlace) = some false
  ne_TooLong_NoPlace : A.c_TooLong ≠ A.c_NoPlace
  p_TooLong_NoSite : PySem.W.kitOne K (.ref A.c_TooLong) (.ref A.c_NoSite) = some false
  ne_TooLong_NoSite : A.c_TooLong ≠ A.c_NoSite
  p_TooLong_NoExit : PySem.W.kitOne K (.ref A.c_TooLong) (.ref A.c_NoExit) = some false
  ne_TooLong_NoExit : A.c_TooLong ≠ A.c_NoExit
  p_TooLong_NoMarble : PySem.W.kitOne K (.ref A.c_TooLong) (.ref A.c_NoMarble) = some false
  ne_TooLong_NoMarble : A.c_TooLong ≠ A.c_NoMarble
  p_TooLong_TooMany : PySem.W.kitOne K (.ref A.c_TooLong) (.ref A.c_TooMany) = some false
  ne_TooLong_TooMany : A.c_TooLong ≠ A.c_TooMany
  p_TooLong_NotOpen : PySem.W.kitOne K (.ref A.c_TooLong) (.ref A.c_NotOpen) = some false
  ne_TooLong_NotOpen : A.c_TooLong ≠ A.c_NotOpen
  p_TooLong_NotBare : PySem.W.kitOne K (.ref A.c_TooLong) (.ref A.c_NotBare) = some false
  ne_TooLong_NotBare : A.c_TooLong ≠ A.c_NotBare
  p_TooLong_NotTree : PySem.W.kitOne K (.ref A.c_TooLong) (.ref A.c_NotTree) = some false
  ne_TooLong_NotTree : A.c_TooLong ≠ A.c_NotTree
  p_TooLong_NoBoard : PySem.W.kitOne K (.ref A.c_TooLong) (.ref A.c_NoBoard) = some false
  ne_TooLong_NoBoard : A.c_TooLong ≠ A.c_NoBoard
  p_NoBoard_NoPlace : PySem.W.kitOne K (.ref A.c_NoBoard) (.ref A.c_NoPlace) = some false
  ne_NoBoard_NoPlace : A.c_NoBoard ≠ A.c_NoPlace
  p_NoBoard_NoSite : PySem.W.kitOne K (.ref A.c_NoBoard) (.ref A.c_NoSite) = some false
  ne_NoBoard_NoSite : A.c_NoBoard ≠ A.c_NoSite
  p_NoBoard_NoExit : PySem.W.kitOne K (.ref A.c_NoBoard) (.ref A.c_NoExit) = some false
  ne_NoBoard_NoExit : A.c_NoBoard ≠ A.c_NoExit
  p_NoBoard_NoMarble : PySem.W.kitOne K (.ref A.c_NoBoard) (.ref A.c_NoMarble) = some false
  ne_NoBoard_NoMarble : A.c_NoBoard ≠ A.c_NoMarble
  p_NoBoard_TooMany : PySem.W.kitOne K (.ref A.c_NoBoard) (.ref A.c_TooMany) = some false
  ne_NoBoard_TooMany : A.c_NoBoard ≠ A.c_TooMany
  p_NoBoard_NotOpen : PySem.W.kitOne K (.ref A.c_NoBoard) (.ref A.c_NotOpen) = some false
  ne_NoBoard_NotOpen : A.c_NoBoard ≠ A.c_NotOpen
  p_NoBoard_NotBare : PySem.W.kitOne K (.ref A.c_NoBoard) (.ref A.c_NotBare) = some false
  ne_NoBoard_NotBare : A.c_NoBoard ≠ A.c_NotBare
  p_NoBoard_NotTree : PySem.W.kitOne K (.ref A.c_NoBoard) (.ref A.c_NotTree) = some false
  ne_NoBoard_NotTree : A.c_NoBoard ≠ A.c_NotTree
  p_NoBoard_TooLong : PySem.W.kitOne K (.ref A.c_NoBoard) (.ref A.c_TooLong) = some false
  ne_NoBoard_TooLong : A.c_NoBoard ≠ A.c_TooLong
  xi_NoPlace : XIs K A.c_NoPlace
  xi_NoSite : XIs K A.c_NoSite
  xi_NoExit : XIs K A.c_NoExit
  xi_NoMarble : XIs K A.c_NoMarble
  xi_TooMany : XIs K A.c_TooMany
  xi_NotOpen : XIs K A.c_NotOpen
  xi_NotBare : XIs K A.c_NotBare
  xi_NotTree : XIs K A.c_NotTree
  xi_TooLong : XIs K A.c_TooLong
  xi_NoBoard : XIs K A.c_NoBoard
  qt_NoPlace_ValueError : PySem.W.kitOne K (.ref A.c_NoPlace) (.type "ValueError") = some true
  qt_NoSite_ValueError : PySem.W.kitOne K (.ref A.c_NoSite) (.type "ValueError") = some true
  qt_NoExit_ValueError : PySem.W.kitOne K (.ref A.c_NoExit) (.type "ValueError") = some true
  qt_NoMarble_ValueError : PySem.W.kitOne K (.ref A.c_NoMarble) (.type "ValueError") = some true
  qt_TooMany_ValueError : PySem.W.kitOne K (.ref A.c_TooMany) (.type "ValueError") = some true
  qt_NotOpen_ValueError : PySem.W.kitOne K (.ref A.c_NotOpen) (.type "ValueError") = some true
  qt_NotBare_ValueError : PySem.W.kitOne K (.ref A.c_NotBare) (.type "ValueError") = some true
  qt_NotTree_ValueError : PySem.W.kitOne K (.ref A.c_NotTree) (.type "ValueError") = some true
  qt_TooLong_ValueError : PySem.W.kitOne K (.ref A.c_TooLong) (.type "ValueError") = some true
  qt_NoBoard_ValueError : PySem.W.kitOne K (.ref A.c_NoBoard) (.type "ValueError") = some true
  q_int_bool : PySem.W.kitOne K (.type "int") (.type "bool") = some false
def spDrawn (K : PySem.W.Frag) : Sp := fun vs H Q _ => ∃ (a : Addr) (ns : List Int) (k many : Int), vs = [.ref a, .int k, .int many] ∧ SqL K H a (ns.map V.int) ∧ 0 < many ∧ -(2 ^ 62) < k ∧ k < 2 ^ 62 ∧ Q (.int (drawn ns k many)) H
theorem at_ints {ns : List Int} {i : Int} (h0 : 0 ≤ i) (h1 : i < (ns.length : Int)) : atI (ns.map V.int) i = some (V.int (ns.getD i.toNat 0)) := by
  obtain ⟨n, rfl⟩ : ∃ n : Nat, i = (n : Int) := ⟨i.toNat, by omega⟩
  have hl : n < ns.length := by omega
  refine atI_nat ?_
  rw [List.getElem?_map, List.getElem?_eq_getElem hl]
  simp [List.getElem?_eq_getElem hl]
theorem at_list {α : Type} {xs : List α} {i : Int} {n : Nat} {x : α} (h0 : i = (n : Int)) (h1 : xs[n]? = some x) : atI xs i = some x := by rw [h0]; exact atI_nat h1
theorem ixN_in {n : Nat} {i : Int} (h0 : 0 ≤ i) (h1 : i < (n : Int)) : ixN n i = some i.toNat := by
  unfold ixN
  rw [if_pos h0, if_pos h1]
theorem small12 {n : Nat} (h : n ≤ 100) : n ≤ sizeLine := Nat.le_of_lt (small1000 (by omega))
def newB (rows : List (List Int)) : Brd := ⟨rows, List.replicate rows.length 0, List.replicate rows.length 0, List.replicate rows.length 0, 0⟩
def spInit (C : Addr) : Sp := fun vs H Q _ => ∃ (p dx aH : Addr) (asH : List Addr) (rows : List (List Int)), vs = [.ref p, .ref aH] ∧ H p = some (.ins C dx []) ∧ Mat H aH asH rows ∧ Wf rows ∧
  ∀ (aR : Addr) (as : List Addr) (aT aL aS : Addr) (H' : Hp), BoardAt C H' p dx aR as aT aL aS (newB rows) → (∀ b o, H b = some o → b ≠ p → H' b = some o) → (∀ b ∈ aT :: aL :: aS :: aR :: as, H b = none) → Q .non H'
theorem map_set_int {r : List Int} {i : Nat} {e : Int} : (r.map V.int).set i (.int e) = (r.set i e).map V.int := by rw [List.map_set]
theorem mat_of {H H' : Hp} {R : Addr} {as : List Addr} {rows : List (List Int)} (hlen : as.length = rows.length) (nd : as.Nodup) (sm : Same H H') (hrow : ∀ (i : Nat) a l, as[i]? = some a → (rows.map fun r => r.map V.int)[i]? = some l → H' a = some (.lst l)) (hR : H' R = none) : Mat (upd H' R (.lst (as.map V.ref))) R as rows := by
  have look : ∀ (i : Nat) a r, as[i]? = some a → rows[i]? = some r → H' a = some (.lst (r.map V.int)) := fun i a r e1 e2 => hrow i a _ e1 (by rw [List.getElem?_map, e2]; rfl)
  have nR : R ∉ as := fun z => by
    obtain ⟨i, hi, e⟩ := List.getElem_of_mem z
    have hi2 : i < rows.length := by omega
    have := look i R rows[i] (by rw [List.getElem?_eq_getElem hi, e]) (List.getElem?_eq_getElem hi2)
    rw [hR] at this
    cases this
  refine ⟨upd_same, hlen, fun i a r e1 e2 => ?_, List.nodup_cons.mpr ⟨nR, nd⟩⟩
  rw [upd_ne (fun z => nR (by rw [← z]; exact List.mem_of_getElem? e1))]
  exact look i a r e1 e2
def spLaw (K : PySem.W.Frag) : Sp := fun vs H Q _ => ∃ (a : Addr) (ns : List Int), vs = [.ref a] ∧ SqL K H a (ns.map V.int) ∧ ns.length ≤ 63 ∧ ∀ H', Q (.bl true) H'
theorem made_same {H H' : Hp} {p dx C : Addr} (hp : H p = none) (hdx : H dx = none) (k : ∀ b o, (upd (upd H dx (.own p)) p (.ins C dx [])) b = some o → b ≠ p → H' b = some o) : Same H H' := fun b o e =>
  k b o (by rw [upd_ne (ne_of_none e hp), upd_ne (ne_of_none e hdx)]; exact e) (ne_of_none e hp)
theorem made_none {H : Hp} {p dx C b : Addr} (h : (upd (upd H dx (.own p)) p (.ins C dx [])) b = none) : H b = none := by
  by_cases h1 : b = p
  · rw [h1, upd_same] at h; cases h
  · rw [upd_ne h1] at h
    by_cases h2 : b = dx
    · rw [h2, upd_same] at h; cases h
    · rw [upd_ne h2] at h; exact h
theorem log2_small {z : Int} (h1 : -(2 ^ 62) < z) (h2 : z < 2 ^ 62) : z.natAbs.log2 < 1920 := by
  by_cases h0 : z.natAbs = 0
  · rw [h0]; decide
  · have h3 : z.natAbs < 2 ^ 62 := by omega
    have h4 := (Nat.log2_lt h0).mpr h3
    omega
def spSite (C Cn : Addr) : Sp := fun vs H Q E => ∃ (p dx aR : Addr) (as : List Addr) (aT aL aS : Addr) (b : Brd) (z : Int), vs = [.ref p, .int z] ∧ BoardAt C H p dx aR as aT aL aS b ∧ -(2 ^ 62) < z ∧ z < 2 ^ 62 ∧
  (0 ≤ z ∧ z < (b.rows.length : Int) → Q .non H) ∧ (¬ (0 ≤ z ∧ z < (b.rows.length : Int)) → E (.ref Cn) none H)
def spTurn (C Cn Cp : Addr) : Sp := fun vs H Q E => ∃ (p dx aR : Addr) (as : List Addr) (aT aL aS : Addr) (b : Brd) (z y : Int), vs = [.ref p, .int z, .int y] ∧ BoardAt C H p dx aR as aT aL aS b ∧ b.turns.length = b.rows.length ∧ -(2 ^ 62) < z ∧ z < 2 ^ 62 ∧ -(2 ^ 62) < y ∧ y < 2 ^ 62 ∧
  (¬ (0 ≤ z ∧ z < (b.rows.length : Int)) → E (.ref Cn) none H) ∧
  (0 ≤ z ∧ z < (b.rows.length : Int) → ¬ (0 ≤ y ∧ y < ((b.rows.getD z.toNat []).length : Int)) → E (.ref Cp) none H) ∧
  (0 ≤ z ∧ z < (b.rows.length : Int) → 0 ≤ y ∧ y < ((b.rows.getD z.toNat []).length : Int) → Q .non (upd H aT (.lst ((b.turns.set z.toNat y).map V.int))))
def spLoad (C Cn Cm : Addr) : Sp := fun vs H Q E => ∃ (p dx aR : Addr) (as : List Addr) (aT aL aS : Addr) (b : Brd) (z y : Int), vs = [.ref p, .int z, .int y] ∧ BoardAt C H p dx aR as aT aL aS b ∧ b.loads.length = b.rows.length ∧ -(2 ^ 62) < z ∧ z < 2 ^ 62 ∧
  (¬ (0 ≤ z ∧ z < (b.rows.length : Int)) → E (.ref Cn) none H) ∧
  (0 ≤ z ∧ z < (b.rows.length : Int) → 400 < b.loads.sum + y → E (.ref Cm) none H) ∧
  (0 ≤ z ∧ z < (b.rows.length : Int) → b.loads.sum + y ≤ 400 → Q .non (upd H aL (.lst ((b.loads.set z.toNat (b.loads.getD z.toNat 0 + y)).map V.int))))
theorem _root_.Com.BoardAt.setT {C : Addr} {H : Hp} {p dx aR : Addr} {as : List Addr} {aT aL aS : Addr} {b : Brd} (B : BoardAt C H p dx aR as aT aL aS b) (ts : List Int) : BoardAt C (upd H aT (.lst (ts.map V.int))) p dx aR as aT aL aS { b with turns := ts } := by
  have n := B.nd
  simp only [List.nodup_cons, List.mem_cons, not_or] at n
  obtain ⟨⟨n1, n2, n3, n4, n5⟩, ⟨n6, n7, n8, n9⟩, _⟩ := n
  exact ⟨by rw [upd_ne n1]; exact B.ob, B.mat.upd (by simp only [List.mem_cons, not_or]; exact ⟨n8, n9⟩), upd_same, by rw [upd_ne (Ne.symm n6)]; exact B.hL, by rw [upd_ne (Ne.symm n7)]; exact B.hS, B.nd⟩
theorem _root_.Com.BoardAt.setL {C : Addr} {H : Hp} {p dx aR : Addr} {as : List Addr} {aT aL aS : Addr} {b : Brd} (B : BoardAt C H p dx aR as aT aL aS b) (ls : List Int) : BoardAt C (upd H aL (.lst (ls.map V.int))) p dx aR as aT aL aS { b with loads := ls } := by
  have n := B.nd
  simp only [List.nodup_cons, List.mem_cons, not_or] at n
  obtain ⟨⟨n1, n2, n3, n4, n5⟩, ⟨n6, n7, n8, n9⟩, ⟨n10, n11, n12⟩, _⟩ := n
  exact ⟨by rw [upd_ne n2]; exact B.ob, B.mat.upd (by simp only [List.mem_cons, not_or]; exact ⟨n11, n12⟩), by rw [upd_ne n6]; exact B.hT, upd_same, by rw [upd_ne (Ne.symm n10)]; exact B.hS, B.nd⟩
theorem getD_get {α : Type} {l : List α} {i : Nat} {d : α} (h : i < l.length) : l.getD i d = l[i] := by simp [List.getElem?_eq_getElem h]
theorem _root_.Com.Mat.at {H : Hp} {R : Addr} {as : List Addr} {rows : List (List Int)} (M : Mat H R as rows) {z : Int} (h0 : 0 ≤ z) (h1 : z < (rows.length : Int)) : ∃ c, atI (as.map V.ref) z = some (.ref c) ∧ H c = some (.lst ((rows.getD z.toNat []).map V.int)) ∧ as[z.toNat]? = some c := by
  have h : z.toNat < rows.length := by omega
  obtain ⟨c, ec, hc, _⟩ := M.get h
  refine ⟨c, at_list (n := z.toNat) (by omega) (by rw [List.getElem?_map, ec]; rfl), ?_, ec⟩
  rw [getD_get h]
  exact hc
theorem atI_map (r : List Int) (i : Int) {v : Int} (h : atI r i = some v) : atI (r.map V.int) i = some (V.int v) := by
  unfold atI at h ⊢
  rw [List.length_map]
  cases q : ixN r.length i with
  | none => rw [q] at h; cases h
  | some j =>
    rw [q] at h
    have h' : r[j]? = some v := h
    show (r.map V.int)[j]? = some (V.int v)
    rw [List.getElem?_map, h']
    rfl
theorem lastx_at {r : List Int} {t : Int} (h0 : 0 ≤ t) (h1 : t < (r.length : Int)) : atI (r.map V.int) (t - 1) = some (V.int (lastx r t)) := by
  have hs : ∃ v, atI r (t - 1) = some v := by
    unfold atI ixN
    by_cases h : 0 ≤ t - 1
    · rw [if_pos h, if_pos (by omega)]
      have : (t - 1).toNat < r.length := by omega
      exact ⟨r[(t - 1).toNat], List.getElem?_eq_getElem this⟩
    · rw [if_neg h, if_pos (by omega)]
      have : (t - 1 + (r.length : Int)).toNat < r.length := by omega
      exact ⟨r[(t - 1 + (r.length : Int)).toNat], List.getElem?_eq_getElem this⟩
  obtain ⟨v, hv⟩ := hs
  have e : lastx r t = v := by unfold lastx; rw [hv]; rfl
  rw [e]
  exact atI_map r _ hv
def spLast (C Cn : Addr) : Sp := fun vs H Q E => ∃ (p dx aR : Addr) (as : List Addr) (aT aL aS : Addr) (b : Brd) (z : Int), vs = [.ref p, .int z] ∧ BoardAt C H p dx aR as aT aL aS b ∧ b.turns.length = b.rows.length ∧ -(2 ^ 62) < z ∧ z < 2 ^ 62 ∧
  (0 ≤ z ∧ z < (b.rows.length : Int) → 0 ≤ b.turns.getD z.toNat 0 ∧ b.turns.getD z.toNat 0 < ((b.rows.getD z.toNat []).length : Int) ∧ Q (.int (lastx (b.rows.getD z.toNat []) (b.turns.getD z.toNat 0))) H) ∧
  (¬ (0 ≤ z ∧ z < (b.rows.length : Int)) → E (.ref Cn) none H)
def spReached (K : PySem.W.Frag) : Sp := fun vs H Q _ => ∃ (R : Addr) (as : List Addr) (rows : List (List Int)), vs = [.ref R] ∧ Mat H R as rows ∧ rows.length ≤ 12 ∧ Ins rows ∧ (∀ r ∈ rows, r.length ≤ 100) ∧
  ∀ (l : Addr) (H' : Hp), Same H H' → H l = none → H' l = some (.lst ((reachL rows).map V.bl)) → Q (.ref l) H'
def spOpen (C : Addr) : Sp := fun vs H Q _ => ∃ (p dx aR : Addr) (as : List Addr) (aT aL aS : Addr) (b : Brd), vs = [.ref p] ∧ BoardAt C H p dx aR as aT aL aS b ∧ b.rows.length ≤ 12 ∧ Ins b.rows ∧ (∀ r ∈ b.rows, r.length ≤ 100) ∧
  ∀ H', Same H H' → Q (.bl ((reachL b.rows).all id)) H'
def kn (kvs : List (Key × V)) (i : Int) : Bool := (valV kvs (.inl i)).isSome
theorem kn_put (kvs : List (Key × V)) (i j : Int) (v : V) : kn (putK kvs (.inl i) v) j = (decide (j = i) || kn kvs j) := by
  unfold kn
  rw [valV_put]
  by_cases h : j = i
  · subst h; simp
  · have : ¬ (Sum.inl j : Key) = Sum.inl i := fun z => h (by injection z)
    rw [if_neg this, decide_eq_false h]
    rfl
theorem bools_get {bs : List Bool} {i : Nat} {b : Bool} (h : bs[i]? = some b) : (bs.map V.bl)[i]? = some (V.bl b) := by rw [List.getElem?_map, h]; rfl
def spTree (C : Addr) : Sp := fun vs H Q _ => ∃ (p dx aR : Addr) (as : List Addr) (aT aL aS : Addr) (b : Brd), vs = [.ref p] ∧ BoardAt C H p dx aR as aT aL aS b ∧ TurnsOk b.rows b.turns ∧ Wf b.rows ∧ ∀ H', Same H H' → Q (.bl (treeB b.rows b.turns)) H'
def spStep (C Cn Cm : Addr) : Sp := fun vs H Q E => ∃ (p dx aR : Addr) (as : List Addr) (aT aL aS : Addr) (b : Brd) (z : Int), vs = [.ref p, .int z] ∧ BoardAt C H p dx aR as aT aL aS b ∧ BrdOk b ∧ -(2 ^ 62) < z ∧ z < 2 ^ 62 ∧
  (¬ (0 ≤ z ∧ z < (b.rows.length : Int)) → E (.ref Cn) none H) ∧ (0 ≤ z ∧ z < (b.rows.length : Int) → b.loads.getD z.toNat 0 < 1 → E (.ref Cm) none H) ∧
  (0 ≤ z ∧ z < (b.rows.length : Int) → 1 ≤ b.loads.getD z.toNat 0 → ∀ H', BoardAt C H' p dx aR as aT aL aS (stepB b z.toNat) → (∀ x, x ∉ p :: aT :: aL :: aS :: aR :: as → H' x = H x) → Q (.int (exitOf b.rows b.turns z.toNat)) H')
theorem same_frame {H0 H H' : Hp} {xs : List Addr} (s : Same H0 H) (fr : ∀ x ∈ xs, H0 x = none) (f : ∀ x, x ∉ xs → H' x = H x) : Same H0 H' := fun c o e => by
  rw [f c (fun z => by rw [fr c z] at e; cases e)]
  exact s c o e
theorem rep_sum0 (n : Nat) : (List.replicate n (0 : Int)).sum = 0 := by
  induction n with
  | zero => rfl
  | succ m ih => rw [List.replicate_succ, List.sum_cons, ih]; rfl
theorem putF_taken (aR aT aL aS : Addr) (z y : Int) : putF "taken" (.int y) (bflds aR aT aL aS z) = bflds aR aT aL aS y := by
  have n (f g : Str) (h : f ≠ g) (v u : V) (r : List (Str × V)) : putF g v ((f, u) :: r) = (f, u) :: putF g v r := by
    show (if f = g then (f, v) :: r else (f, u) :: putF g v r) = _
    rw [if_neg h]
  unfold bflds
  rw [n _ _ (by decide +kernel), n _ _ (by decide +kernel), n _ _ (by decide +kernel), n _ _ (by decide +kernel)]
  rfl
theorem _root_.Com.BoardAt.setS {C : Addr} {H : Hp} {p dx aR : Addr} {as : List Addr} {aT aL aS : Addr} {b : Brd} (B : BoardAt C H p dx aR as aT aL aS b) (ls : List Int) : BoardAt C (upd H aS (.lst (ls.map V.int))) p dx aR as aT aL aS { b with steps := ls } := by
  have n := B.nd
  simp only [List.nodup_cons, List.mem_cons, not_or] at n
  obtain ⟨⟨n1, n2, n3, n4, n5⟩, ⟨n6, n7, n8, n9⟩, ⟨n10, n11, n12⟩, ⟨n13, n14⟩, _⟩ := n
  exact ⟨by rw [upd_ne n3]; exact B.ob, B.mat.upd (by simp only [List.mem_cons, not_or]; exact ⟨n13, n14⟩), by rw [upd_ne n7]; exact B.hT, by rw [upd_ne n10]; exact B.hL, upd_same, B.nd⟩
theorem _root_.Com.BoardAt.setP {C : Addr} {H : Hp} {p dx aR : Addr} {as : List Addr} {aT aL aS : Addr} {b : Brd} (B : BoardAt C H p dx aR as aT aL aS b) (y : Int) : BoardAt C (upd H p (.ins C dx (bflds aR aT aL aS y))) p dx aR as aT aL aS { b with taken := y } := by
  have n := B.nd
  simp only [List.nodup_cons, List.mem_cons, not_or] at n
  obtain ⟨⟨n1, n2, n3, n4, n5⟩, _⟩ := n
  exact ⟨upd_same, B.mat.upd (by simp only [List.mem_cons, not_or]; exact ⟨n4, n5⟩), by rw [upd_ne (Ne.symm n1)]; exact B.hT, by rw [upd_ne (Ne.symm n2)]; exact B.hL, by rw [upd_ne (Ne.symm n3)]; exact B.hS, B.nd⟩
theorem kit_self {K : PySem.W.Frag} {c : Addr} : PySem.W.kitOne K (.ref c) (.ref c) = some true := by
  unfold PySem.W.kitOne
  simp
theorem board_in {C : Addr} {H : Hp} {p dx aR : Addr} {asB : List Addr} {aT aL aS : Addr} {b : Brd} (B : BoardAt C H p dx aR asB aT aL aS b) : ∀ x ∈ p :: aT :: aL :: aS :: aR :: asB, ∃ o, H x = some o := fun c hc => by
  simp only [List.mem_cons] at hc
  rcases hc with rfl | rfl | rfl | rfl | rfl | hc
  · exact ⟨_, B.ob⟩
  · exact ⟨_, B.hT⟩
  · exact ⟨_, B.hL⟩
  · exact ⟨_, B.hS⟩
  · exact ⟨_, B.mat.hd⟩
  · obtain ⟨i, hi, ei⟩ := List.getElem_of_mem hc
    obtain ⟨c', e1, e2, _⟩ := B.mat.get (i := i) (by rw [← B.mat.len]; exact hi)
    rw [List.getElem?_eq_getElem hi, ei] at e1
    cases e1
    exact ⟨_, e2⟩
section
variable {C : Addr} {H0 H H' : Hp} {p dx aR : Addr} {asB : List Addr} {aT aL aS R : Addr} {as : List Addr} {tA lA cA : Addr} {b b' b2 : Brd}
end
theorem _root_.Com.BoardAt.lists {C : Addr} {H : Hp} {p dx aR : Addr} {as : List Addr} {aT aL aS : Addr} {b : Brd} (B : BoardAt C H p dx aR as aT aL aS b) : ∀ x ∈ aT :: aL :: aS :: aR :: as, ∃ xs, H x = some (.lst xs) := fun c hc => by
  simp only [List.mem_cons] at hc
  rcases hc with rfl | rfl | rfl | rfl | hc
  · exact ⟨_, B.hT⟩
  · exact ⟨_, B.hL⟩
  · exact ⟨_, B.hS⟩
  · exact ⟨_, B.mat.hd⟩
  · obtain ⟨i, hi, ei⟩ := List.getElem_of_mem hc
    obtain ⟨c', e1, e2, _⟩ := B.mat.get (i := i) (by rw [← B.mat.len]; exact hi)
    rw [List.getElem?_eq_getElem hi, ei] at e1
    cases e1
    exact ⟨_, e2⟩
theorem putF_turns (aR aT aL aS : Addr) (z : Int) (n : Addr) : putF "turns" (.ref n) (bflds aR aT aL aS z) = bflds aR n aL aS z := by
  have n' (f g : Str) (h : f ≠ g) (v u : V) (r : List (Str × V)) : putF g v ((f, u) :: r) = (f, u) :: putF g v r := by
    show (if f = g then (f, v) :: r else (f, u) :: putF g v r) = _
    rw [if_neg h]
  unfold bflds
  rw [n' _ _ (by decide +kernel)]
  rfl
theorem putF_loads (aR aT aL aS : Addr) (z : Int) (n : Addr) : putF "loads" (.ref n) (bflds aR aT aL aS z) = bflds aR aT n aS z := by
  have n' (f g : Str) (h : f ≠ g) (v u : V) (r : List (Str × V)) : putF g v ((f, u) :: r) = (f, u) :: putF g v r := by
    show (if f = g then (f, v) :: r else (f, u) :: putF g v r) = _
    rw [if_neg h]
  unfold bflds
  rw [n' _ _ (by decide +kernel), n' _ _ (by decide +kernel)]
  rfl
theorem putF_steps (aR aT aL aS : Addr) (z : Int) (n : Addr) : putF "steps" (.ref n) (bflds aR aT aL aS z) = bflds aR aT aL n z := by
  have n' (f g : Str) (h : f ≠ g) (v u : V) (r : List (Str × V)) : putF g v ((f, u) :: r) = (f, u) :: putF g v r := by
    show (if f = g then (f, v) :: r else (f, u) :: putF g v r) = _
    rw [if_neg h]
  unfold bflds
  rw [n' _ _ (by decide +kernel), n' _ _ (by decide +kernel), n' _ _ (by decide +kernel)]
  rfl
section
variable {C : Addr} {H : Hp} {p dx aR : Addr} {as : List Addr} {aT aL aS : Addr} {b : Brd}
theorem _root_.Com.BoardAt.newT (B : BoardAt C H p dx aR as aT aL aS b) {n : Addr} (hn : H n = none) (ts : List Int) : BoardAt C (upd (upd H n (.lst (ts.map V.int))) p (.ins C dx (bflds aR n aL aS b.taken))) p dx aR as n aL aS { b with turns := ts } := by
  have nn : ∀ x ∈ p :: aT :: aL :: aS :: aR :: as, x ≠ n := fun x hx z => by obtain ⟨o, e⟩ := board_in B x hx; rw [z, hn] at e; cases e
  have nd := B.nd
  simp only [List.nodup_cons, List.mem_cons, not_or] at nd
  obtain ⟨⟨n1, n2, n3, n4, n5⟩, ⟨n6, n7, n8, n9⟩, ⟨n10, n11, n12⟩, ⟨n13, n14⟩, n15, n16⟩ := nd
  have pn := nn p (by simp)
  have k : ∀ x o, x ∈ aL :: aS :: aR :: as → H x = some o → (upd (upd H n (.lst (ts.map V.int))) p (.ins C dx (bflds aR n aL aS b.taken))) x = some o := fun x o hx e => by
    have x1 : x ≠ n := nn x (by simp only [List.mem_cons] at hx ⊢; exact .inr (.inr hx))
    have x2 : x ≠ p := by
      simp only [List.mem_cons] at hx
      rcases hx with rfl | rfl | rfl | hx
      · exact Ne.symm n2
      · exact Ne.symm n3
      · exact Ne.symm n4
      · exact fun z => n5 (by rw [← z]; exact hx)
    rw [upd_ne x2, upd_ne x1]
    exact e
  refine ⟨upd_same, B.mat.keep fun c o hc => k c o (by simp only [List.mem_cons] at hc ⊢; exact .inr (.inr hc)), by rw [upd_ne (Ne.symm pn)]; exact upd_same, k _ _ (by simp) B.hL, k _ _ (by simp) B.hS, ?_⟩
  simp only [List.nodup_cons, List.mem_cons, not_or]
  exact ⟨⟨pn, n2, n3, n4, n5⟩, ⟨Ne.symm (nn aL (by simp)), Ne.symm (nn aS (by simp)), Ne.symm (nn aR (by simp)), fun z => nn n (by simp [z]) rfl⟩, ⟨n10, n11, n12⟩, ⟨n13, n14⟩, n15, n16⟩
theorem _root_.Com.BoardAt.newL (B : BoardAt C H p dx aR as aT aL aS b) {n : Addr} (hn : H n = none) (ts : List Int) : BoardAt C (upd (upd H n (.lst (ts.map V.int))) p (.ins C dx (bflds aR aT n aS b.taken))) p dx aR as aT n aS { b with loads := ts } := by
  have nn : ∀ x ∈ p :: aT :: aL :: aS :: aR :: as, x ≠ n := fun x hx z => by obtain ⟨o, e⟩ := board_in B x hx; rw [z, hn] at e; cases e
  have nd := B.nd
  simp only [List.nodup_cons, List.mem_cons, not_or] at nd
  obtain ⟨⟨n1, n2, n3, n4, n5⟩, ⟨n6, n7, n8, n9⟩, ⟨n10, n11, n12⟩, ⟨n13, n14⟩, n15, n16⟩ := nd
  have pn := nn p (by simp)
  have k : ∀ x o, x ∈ aT :: aS :: aR :: as → H x = some o → (upd (upd H n (.lst (ts.map V.int))) p (.ins C dx (bflds aR aT n aS b.taken))) x = some o := fun x o hx e => by
    simp only [List.mem_cons] at hx
    have x1 : x ≠ n := nn x (by
      simp only [List.mem_cons]
      rcases hx with h | h | h | h <;> simp [h])
    have x2 : x ≠ p := by
      rcases hx with rfl | rfl | rfl | hx
      · exact Ne.symm n1
      · exact Ne.symm n3
      · exact Ne.symm n4
      · exact fun z => n5 (by rw [← z]; exact hx)
    rw [upd_ne x2, upd_ne x1]
    exact e
  refine ⟨upd_same, B.mat.keep fun c o hc => k c o (by simp only [List.mem_cons] at hc ⊢; exact .inr (.inr hc)), k _ _ (by simp) B.hT, by rw [upd_ne (Ne.symm pn)]; exact upd_same, k _ _ (by simp) B.hS, ?_⟩
  simp only [List.nodup_cons, List.mem_cons, not_or]
  exact ⟨⟨n1, pn, n3, n4, n5⟩, ⟨nn aT (by simp), n7, n8, n9⟩, ⟨Ne.symm (nn aS (by simp)), Ne.symm (nn aR (by simp)), fun z => nn n (by simp [z]) rfl⟩, ⟨n13, n14⟩, n15, n16⟩
theorem _root_.Com.BoardAt.newS (B : BoardAt C H p dx aR as aT aL aS b) {n : Addr} (hn : H n = none) (ts : List Int) : BoardAt C (upd (upd H n (.lst (ts.map V.int))) p (.ins C dx (bflds aR aT aL n b.taken))) p dx aR as aT aL n { b with steps := ts } := by
  have nn : ∀ x ∈ p :: aT :: aL :: aS :: aR :: as, x ≠ n := fun x hx z => by obtain ⟨o, e⟩ := board_in B x hx; rw [z, hn] at e; cases e
  have nd := B.nd
  simp only [List.nodup_cons, List.mem_cons, not_or] at nd
  obtain ⟨⟨n1, n2, n3, n4, n5⟩, ⟨n6, n7, n8, n9⟩, ⟨n10, n11, n12⟩, ⟨n13, n14⟩, n15, n16⟩ := nd
  have pn := nn p (by simp)
  have k : ∀ x o, x ∈ aT :: aL :: aR :: as → H x = some o → (upd (upd H n (.lst (ts.map V.int))) p (.ins C dx (bflds aR aT aL n b.taken))) x = some o := fun x o hx e => by
    simp only [List.mem_cons] at hx
    have x1 : x ≠ n := nn x (by
      simp only [List.mem_cons]
      rcases hx with h | h | h | h <;> simp [h])
    have x2 : x ≠ p := by
      rcases hx with rfl | rfl | rfl | hx
      · exact Ne.symm n1
      · exact Ne.symm n2
      · exact Ne.symm n4
      · exact fun z => n5 (by rw [← z]; exact hx)
    rw [upd_ne x2, upd_ne x1]
    exact e
  refine ⟨upd_same, B.mat.keep fun c o hc => k c o (by simp only [List.mem_cons] at hc ⊢; exact .inr (.inr hc)), k _ _ (by simp) B.hT, k _ _ (by simp) B.hL, by rw [upd_ne (Ne.symm pn)]; exact upd_same, ?_⟩
  simp only [List.nodup_cons, List.mem_cons, not_or]
  exact ⟨⟨n1, n2, pn, n4, n5⟩, ⟨n6, nn aT (by simp), n8, n9⟩, ⟨nn aL (by simp), n11, n12⟩, ⟨Ne.symm (nn aR (by simp)), fun z => nn n (by simp [z]) rfl⟩, n15, n16⟩
end
def But (p : Addr) (H H' : Hp) : Prop := ∀ x o, x ≠ p → H x = some o → H' x = some o
theorem But.refl (p : Addr) (H : Hp) : But p H H := fun _ _ _ e => e
theorem But.new {p : Addr} {H H' : Hp} (k : But p H H') {n : Addr} {o o' : HO} (hn : H' n = none) : But p H (upd (upd H' n o) p o') := fun x u hx e => by
  have := k x u hx e
  rw [upd_ne hx, upd_ne (ne_of_none this hn)]
  exact this
theorem But.free {p : Addr} {H H' : Hp} (k : But p H H') {n : Addr} (hn : H' n = none) (hp : n ≠ p) : H n = none := by
  cases e : H n with
  | none => rfl
  | some o => rw [k n o hp e] at hn; cases hn
theorem But.same {p : Addr} {H0 H H' : Hp} (k : But p H H') (s : Same H0 H) (hp : H0 p = none) : Same H0 H' := fun x o e => k x o (ne_of_none e hp) (s x o e)
theorem But.board {p : Addr} {H H' : Hp} (k : But p H H') {C : Addr} {p2 dx2 aR2 : Addr} {as2 : List Addr} {aT2 aL2 aS2 : Addr} {b2 : Brd} (B : BoardAt C H p2 dx2 aR2 as2 aT2 aL2 aS2 b2) (hp : p ∉ p2 :: aT2 :: aL2 :: aS2 :: aR2 :: as2) : BoardAt C H' p2 dx2 aR2 as2 aT2 aL2 aS2 b2 :=
  B.keep fun c o hc e => k c o (fun z => hp (by rw [← z]; exact hc)) e
theorem ins_not {C : Addr} {H : Hp} {p dx : Addr} {fs : List (Str × V)} (e : H p = some (.ins C dx fs)) {p2 dx2 aR2 : Addr} {as2 : List Addr} {aT2 aL2 aS2 : Addr} {b2 : Brd} (B : BoardAt C H p2 dx2 aR2 as2 aT2 aL2 aS2 b2) (hp : p ≠ p2) : p ∉ p2 :: aT2 :: aL2 :: aS2 :: aR2 :: as2 := fun z => by
  rcases List.mem_cons.mp z with z | z
  · exact hp z
  · obtain ⟨xs, e2⟩ := B.lists p z
    rw [e] at e2
    cases e2
def spLike (C : Addr) : Sp := fun vs H Q _ => ∃ (p dx aR : Addr) (as : List Addr) (aT aL aS : Addr) (b : Brd) (p2 dx2 aR2 : Addr) (as2 : List Addr) (aT2 aL2 aS2 : Addr) (b2 : Brd), vs = [.ref p, .ref p2] ∧ BoardAt C H p dx aR as aT aL aS b ∧ BoardAt C H p2 dx2 aR2 as2 aT2 aL2 aS2 b2 ∧ p ≠ p2 ∧
  ∀ (aT' aL' aS' : Addr) (H' : Hp), BoardAt C H' p dx aR as aT' aL' aS' ⟨b.rows, b2.turns, b2.loads, b2.steps, b2.taken⟩ → But p H H' → H aT' = none → H aL' = none → H aS' = none → Q .non H'
def spTwin (C : Addr) : Sp := fun vs H Q _ => ∃ (p dx aR : Addr) (as : List Addr) (aT aL aS : Addr) (b : Brd), vs = [.ref p] ∧ BoardAt C H p dx aR as aT aL aS b ∧ Wf b.rows ∧
  ∀ (p' dx' aR' : Addr) (as' : List Addr) (aT' aL' aS' : Addr) (H' : Hp), BoardAt C H' p' dx' aR' as' aT' aL' aS' b → Same H H' → (∀ c ∈ p' :: aT' :: aL' :: aS' :: aR' :: as', H c = none) → Q (.ref p') H'
def spLaden (C : Addr) : Sp := fun vs H Q _ => ∃ (p dx aR : Addr) (as : List Addr) (aT aL aS : Addr) (b : Brd), vs = [.ref p] ∧ BoardAt C H p dx aR as aT aL aS b ∧ b.loads.length ≤ 100 ∧
  ∀ (l : Addr) (H' : Hp), Same H H' → H l = none → H' l = some (.lst ((ladenL b.loads).map fun i => V.int (i : Nat))) → Q (.ref l) H'
def spChkO (C Co : Addr) : Sp := fun vs H Q E => ∃ (p dx aR : Addr) (as : List Addr) (aT aL aS : Addr) (b : Brd), vs = [.ref p] ∧ BoardAt C H p dx aR as aT aL aS b ∧ Wf b.rows ∧
  ((reachL b.rows).all id = true → ∀ H', Same H H' → Q .non H') ∧ ((reachL b.rows).all id = false → ∀ H', Same H H' → E (.ref Co) none H')
def spRun (C Co Cl : Addr) : Sp := fun vs H Q E => ∃ (p dx aR : Addr) (as : List Addr) (aT aL aS : Addr) (b : Brd) (most : Int), vs = [.ref p, .int most] ∧ BoardAt C H p dx aR as aT aL aS b ∧ BrdOk b ∧ -(2 ^ 62) < most ∧ most < 2 ^ 62 ∧
  ((reachL b.rows).all id = false → ∀ H', Same H H' → E (.ref Co) none H') ∧
  ((reachL b.rows).all id = true → ∃ N : Nat, RunTo b N ∧ ((N : Int) ≤ most → ∀ (aT' aL' aS' : Addr) (H' : Hp), BoardAt C H' p dx aR as aT' aL' aS' (iterR N b) → But p H H' → H aT' = none → H aL' = none → H aS' = none → Q (.int N) H') ∧
    (most < (N : Int) → ∀ H', Same H H' → E (.ref Cl) none H'))
theorem laden_range (ls : List Int) (i : Nat) : ((List.range (i + 1)).filter fun k => decide (0 < ls.getD k 0)).map (fun k => V.int (k : Nat)) = ((List.range i).filter fun k => decide (0 < ls.getD k 0)).map (fun k => V.int (k : Nat)) ++ (if 0 < ls.getD i 0 then [V.int (i : Nat)] else []) := by
  rw [List.range_succ, List.filter_append, List.map_append]
  by_cases h : 0 < ls.getD i 0
  · rw [if_pos h, List.filter_cons_of_pos (by exact decide_eq_true h)]; rfl
  · rw [if_neg h, List.filter_cons_of_neg (by exact fun z => h (of_decide_eq_true z))]; rfl
def spLeads (C : Addr) : Sp := fun vs H Q _ => ∃ (p dx aR : Addr) (as : List Addr) (aT aL aS : Addr) (b : Brd) (st z : Int), vs = [.ref p, .int st, .int z] ∧ BoardAt C H p dx aR as aT aL aS b ∧ Wf b.rows ∧ TurnsOk b.rows b.turns ∧ -1 ≤ z ∧ z < (b.rows.length : Int) ∧ Q (.int (ring b.rows st b.turns z)) H
def spAhead (C : Addr) : Sp := fun vs H Q _ => ∃ (p dx aR : Addr) (as : List Addr) (aT aL aS : Addr) (b : Brd) (st x : Int) (m : Nat), vs = [.ref p, .int st, .int x] ∧ BoardAt C H p dx aR as aT aL aS b ∧ Wf b.rows ∧ TurnsOk b.rows b.turns ∧ 0 ≤ st ∧ st < (b.rows.length : Int) ∧ -1 ≤ x ∧ x < (b.rows.length : Int) ∧ Ahead b.rows st b.turns x m ∧ Q (.int (goR b.rows st b.turns m x)) H
def spTurnB (C Cl : Addr) : Sp := fun vs H Q E => ∃ (p dx aR : Addr) (as : List Addr) (aT aL aS : Addr) (b : Brd) (st most : Int), vs = [.ref p, .int st, .int most] ∧ BoardAt C H p dx aR as aT aL aS b ∧ BrdOk b ∧ treeB b.rows b.turns = true ∧ Tame b.rows 30 ∧ 0 ≤ st ∧ st < (b.rows.length : Int) ∧ -(2 ^ 62) < most ∧ most < 2 ^ 62 ∧
  (∀ (N m : Nat) (T : List Int), Bk b.rows st b.turns N T st → Ahead b.rows st T st m → goR b.rows st T m st = -1 → treeB b.rows T = true → TurnsOk b.rows T → (N : Int) ≤ most → ∀ H', BoardAt C H' p dx aR as aT aL aS ⟨b.rows, T, b.loads, b.steps, b.taken⟩ → (∀ x, x ∉ p :: aT :: aL :: aS :: aR :: as → H' x = H x) → Q (.int N) H') ∧
  (∀ (k : Nat) (T : List Int) (x : Int), Bk b.rows st b.turns k T x → most < (k : Int) → ∀ H', (∀ x, x ∉ p :: aT :: aL :: aS :: aR :: as → H' x = H x) → E (.ref Cl) none H')
def spChkB (C Cn Co Cb Ct : Addr) : Sp := fun vs H Q E => ∃ (p dx aR : Addr) (as : List Addr) (aT aL aS : Addr) (b : Brd) (z : Int), vs = [.ref p, .int z] ∧ BoardAt C H p dx aR as aT aL aS b ∧ BrdOk b ∧ -(2 ^ 62) < z ∧ z < 2 ^ 62 ∧
  (¬ (0 ≤ z ∧ z < (b.rows.length : Int)) → ∀ H', Same H H' → E (.ref Cn) none H') ∧
  (0 ≤ z ∧ z < (b.rows.length : Int) → (reachL b.rows).all id = false → ∀ H', Same H H' → E (.ref Co) none H') ∧
  (0 ≤ z ∧ z < (b.rows.length : Int) → (reachL b.rows).all id = true → ladenL b.loads ≠ [] → ∀ H', Same H H' → E (.ref Cb) none H') ∧
  (0 ≤ z ∧ z < (b.rows.length : Int) → (reachL b.rows).all id = true → ladenL b.loads = [] → treeB b.rows b.turns = false → ∀ H', Same H H' → E (.ref Ct) none H') ∧
  (0 ≤ z ∧ z < (b.rows.length : Int) → (reachL b.rows).all id = true → ladenL b.loads = [] → treeB b.rows b.turns = true → ∀ H', Same H H' → Q .non H')
def spBack (C Cn Co Cb Ct Cl : Addr) : Sp := fun vs H Q E => ∃ (p dx aR : Addr) (as : List Addr) (aT aL aS : Addr) (b : Brd) (st most : Int), vs = [.ref p, .int st, .int most] ∧ BoardAt C H p dx aR as aT aL aS b ∧ BrdOk b ∧ ((reachL b.rows).all id = true → Tame b.rows 30) ∧ -(2 ^ 62) < st ∧ st < 2 ^ 62 ∧ -(2 ^ 62) < most ∧ most < 2 ^ 62 ∧
  (¬ (0 ≤ st ∧ st < (b.rows.length : Int)) → ∀ H', Same H H' → E (.ref Cn) none H') ∧
  (0 ≤ st ∧ st < (b.rows.length : Int) → (reachL b.rows).all id = false → ∀ H', Same H H' → E (.ref Co) none H') ∧
  (0 ≤ st ∧ st < (b.rows.length : Int) → (reachL b.rows).all id = true → ladenL b.loads ≠ [] → ∀ H', Same H H' → E (.ref Cb) none H') ∧
  (0 ≤ st ∧ st < (b.rows.length : Int) → (reachL b.rows).all id = true → ladenL b.loads = [] → treeB b.rows b.turns = false → ∀ H', Same H H' → E (.ref Ct) none H') ∧
  (0 ≤ st ∧ st < (b.rows.length : Int) → (reachL b.rows).all id = true → ladenL b.loads = [] → treeB b.rows b.turns = true → ∀ (k : Nat) (T : List Int) (x : Int), Bk b.rows st b.turns k T x → most < (k : Int) → ∀ H', Same H H' → E (.ref Cl) none H') ∧
  (0 ≤ st ∧ st < (b.rows.length : Int) → (reachL b.rows).all id = true → ladenL b.loads = [] → treeB b.rows b.turns = true → ∀ (N m : Nat) (T : List Int), Bk b.rows st b.turns N T st → Ahead b.rows st T st m → goR b.rows st T m st = -1 → treeB b.rows T = true → TurnsOk b.rows T → (N : Int) ≤ most →
    ∀ (aT' aL' aS' : Addr) (H' : Hp), BoardAt C H' p dx aR as aT' aL' aS' ⟨b.rows, T, b.loads, b.steps, b.taken⟩ → But p H H' → H aT' = none → H aL' = none → H aS' = none → Q (.int N) H')
def spRdN : Sp := fun vs H Q _ => ∃ n : Int, vs = [.str (numS n)] ∧ Nu n ∧ ∀ H', Same H H' → Q (.int n) H'
def spRdW : Sp := fun vs H Q _ => ∃ e : Int, vs = [.str (wordS e)] ∧ (e = -1 ∨ Nu e) ∧ ∀ H', Same H H' → Q (.int e) H'
def spRdR (K : PySem.W.Frag) : Sp := fun vs H Q _ => ∃ (a : Addr) (t l s : Int) (r : List Int), vs = [.ref a] ∧ SqL K H a ((lineW t l s r).map V.str) ∧ (∀ e ∈ r, e = -1 ∨ Nu e) ∧ r.length ≤ 8 ∧ ∀ D H', Same H H' → H D = none → H' D = some (.lst (r.map V.int)) → Q (.ref D) H'
def spRdS (K : PySem.W.Frag) : Sp := fun vs H Q _ => ∃ (a : Addr) (t l s : Int) (r : List Int), vs = [.ref a] ∧ SqL K H a ((lineW t l s r).map V.str) ∧ Nu t ∧ Nu l ∧ Nu s ∧ ∀ D H', Same H H' → H D = none → H' D = some (.lst ([t, l, s].map V.int)) → Q (.ref D) H'
def spRdH (K : PySem.W.Frag) : Sp := fun vs H Q _ => ∃ (a : Addr) (w : Int), vs = [.ref a] ∧ SqL K H a ((headW w).map V.str) ∧ Nu w ∧ ∀ H', Same H H' → Q (.int w) H'
def Small (rows : List (List Int)) : Prop := ∀ r ∈ rows, ∀ e ∈ r, -(2 ^ 62) < e ∧ e < 2 ^ 62
def spCheckRowX (K : PySem.W.Frag) (Ce : Addr) : Sp := fun vs H Q E => ∃ (a : Addr) (r : List Int) (n : Nat), vs = [.ref a, .int (n : Int)] ∧ SqL K H a (r.map V.int) ∧ (∀ e ∈ r, -(2 ^ 62) < e ∧ e < 2 ^ 62) ∧ (RowOk n r → Q .non H) ∧ (¬ RowOk n r → E (.ref Ce) none H)
def spCheckRowsX (Cs Ce : Addr) : Sp := fun vs H Q E => ∃ (a : Addr) (as : List Addr) (rows : List (List Int)), vs = [.ref a] ∧ Mat H a as rows ∧ Small rows ∧ (Wf rows → Q .non H) ∧ (¬ (1 ≤ rows.length ∧ rows.length ≤ 12) → E (.ref Cs) none H) ∧ (1 ≤ rows.length ∧ rows.length ≤ 12 → ¬ Wf rows → E (.ref Ce) none H)
def spInitX (C Cs Ce : Addr) : Sp := fun vs H Q E => ∃ (p dx aH : Addr) (asH : List Addr) (rows : List (List Int)), vs = [.ref p, .ref aH] ∧ H p = some (.ins C dx []) ∧ Mat H aH asH rows ∧ Small rows ∧
  (Wf rows → ∀ (aR : Addr) (as : List Addr) (aT aL aS : Addr) (H' : Hp), BoardAt C H' p dx aR as aT aL aS (newB rows) → (∀ b o, H b = some o → b ≠ p → H' b = some o) → (∀ b ∈ aT :: aL :: aS :: aR :: as, H b = none) → Q .non H') ∧
  (¬ (1 ≤ rows.length ∧ rows.length ≤ 12) → E (.ref Cs) none H) ∧ (1 ≤ rows.length ∧ rows.length ≤ 12 → ¬ Wf rows → E (.ref Ce) none H)
theorem take_snoc {α : Type} {l : List α} {i : Nat} {x : α} (h : l[i]? = some x) : l.take (i + 1) = l.take i ++ [x] := by rw [List.take_add_one, h]; rfl
theorem tame_of {P : Program} {w : World} {K : PySem.W.Frag} {mg : Str → Option Value} {base : Heap} {k : Nat} {f : Addr} {fd : FuncData} {ps : List Str} {sp sp' : Sp} (F : FnOk P w K mg base (CX1 P w) k f fd ps sp) (h : ∀ vs H Q E, sp' vs H Q E → sp vs H Q E0) : FnOk P w K mg base CX0 k f fd ps sp' :=
  ⟨fun vs H Q E q => F.len _ _ _ _ (h vs H Q E q), fun A outer s H args us vs Q E hr he hb hv hs => codeAny_mono (F.run A outer s H args us vs Q E0 hr he hb hv (h _ _ _ _ hs)) fun r s' z => by
    cases r with
    | ok fl => cases fl <;> exact z
    | error e => obtain ⟨_, _, _, _, _, _, _, _, _, _, _, z⟩ := z; exact False.elim z⟩
theorem init_tame {C Cs Ce : Addr} : ∀ vs H Q E, spInit C vs H Q E → spInitX C Cs Ce vs H Q E0 := by
  rintro vs H Q E ⟨p, dx, aH, asH, rows, rfl, hp, M, W, q⟩
  exact ⟨p, dx, aH, asH, rows, rfl, hp, M, fun r hr e he => (by have := (W.2.2 r hr).2.2 e he; have := W.2.1; omega), fun _ => q, fun z => absurd ⟨W.1, W.2.1⟩ z, fun _ z => absurd W z⟩
def Pits (rows : List (List Int)) : Prop := 1 ≤ rows.length ∧ rows.length ≤ 12 ∧ ∀ r ∈ rows, 1 ≤ r.length ∧ r.length ≤ 3 ∧ ∀ e ∈ r, e = -1
theorem Pits.wf {rows : List (List Int)} (h : Pits rows) : Wf rows := ⟨h.1, h.2.1, fun r hr => by
  obtain ⟨a, b, c⟩ := h.2.2 r hr
  exact ⟨a, by omega, fun e he => by rw [c e he]; omega⟩⟩
theorem Pits.at {rows : List (List Int)} (h : Pits rows) {i : Nat} (hi : i < rows.length) : rows.getD i [] ∈ rows := by rw [getD_get hi]; exact List.getElem_mem hi
theorem Pits.op {rows : List (List Int)} (h : Pits rows) : ∀ i, i < rows.length → rch rows i = true := fun i hi => by
  obtain ⟨a, b, c⟩ := h.2.2 _ (h.at hi)
  cases e : rows.getD i [] with
  | nil => rw [e] at a; cases a
  | cons x r =>
    rw [e] at c
    exact rch_step (e := x) (by rw [e]; exact List.mem_cons_self) (.inl (c x List.mem_cons_self))
theorem sumU_zero : ∀ n, sumU (fun _ => 0) n = 0
  | 0 => rfl
  | n + 1 => by show sumU (fun _ => 0) n + 0 = 0; rw [sumU_zero n]
theorem Pits.tame {rows : List (List Int)} (h : Pits rows) : Tame rows 30 := by
  refine tame_big (u := fun _ => 0) h.wf (fun k hk => ?_) (by rw [sumU_zero]; decide)
  obtain ⟨a, b, c⟩ := h.2.2 _ (h.at hk)
  refine ⟨?_, (by show 0 ≤ 3; decide), ?_⟩
  · unfold ups
    rw [List.filter_eq_nil_iff.mpr]
    · exact Nat.le_refl _
    · intro x hx
      rw [c x hx]
      simp
      omega
  · cases e : rows.getD k [] with
    | nil => rw [e] at a; cases a
    | cons x r =>
      rw [e] at c
      exact ⟨x, List.mem_cons_self, by rw [c x List.mem_cons_self]; omega⟩
theorem Pits.last {rows : List (List Int)} (h : Pits rows) {ts : List Int} (hT : TurnsOk rows ts) {i : Nat} (hi : i < rows.length) : lastx (rows.getD i []) (ts.getD i 0) = -1 :=
  (h.2.2 _ (h.at hi)).2.2 _ (lastx_mem (hT.2 i hi).1 (hT.2 i hi).2)
theorem Pits.tree {rows : List (List Int)} (h : Pits rows) {ts : List Int} (hT : TurnsOk rows ts) : treeB rows ts = true := by
  refine all_open fun i hi => ?_
  rw [lastRows_len] at hi
  exact rch_step (e := -1) (by rw [lastRows_get hi, h.last hT hi]; exact List.mem_cons_self) (.inl rfl)
theorem turns0 {rows : List (List Int)} (W : Wf rows) : TurnsOk rows (List.replicate rows.length 0) := ⟨by simp, fun i hi => by
  have := (W.2.2 _ (show rows.getD i [] ∈ rows by rw [getD_get hi]; exact List.getElem_mem hi)).1
  rw [rep_get]
  omega⟩
theorem newB_O {rows : List (List Int)} (W : Wf rows) : BrdOk (newB rows) := ⟨W, turns0 W, by simp [newB], by simp [newB], fun i => by show 0 ≤ (List.replicate rows.length (0 : Int)).getD i 0; rw [rep_get]; exact Int.le_refl _⟩
theorem newB_bare (rows : List (List Int)) : ladenL (newB rows).loads = [] := laden_none fun i _ => by show (List.replicate rows.length (0 : Int)).getD i 0 ≤ 0; rw [rep_get]; exact Int.le_refl _
def wcls (A : Adr) (w : Nat) : Addr := [A.c_NoPlace, A.c_NoSite, A.c_NoExit, A.c_NoMarble, A.c_TooMany, A.c_NotOpen, A.c_NotBare, A.c_NotTree, A.c_TooLong, A.c_NoBoard].getD w 0
def marksL (w : Nat) : List V := (List.range 11).map fun (k : Nat) => V.bl (decide (k = w) || decide (k = 10))
def spMarks (A : Adr) : Sp := fun vs H Q _ => ∃ (e : Addr) (w : Nat), vs = [.ref e] ∧ w < 10 ∧ H e = some (excO (wcls A w) e) ∧ ∀ (l : Addr) (H' : Hp), H' l = some (.lst (marksL w)) → Q (.ref l) H'
def spDeed (A : Adr) : Sp := fun vs H Q E => ∃ (p dx aR : Addr) (as : List Addr) (aT aL aS : Addr) (rows : List (List Int)) (w : Nat) (at0 sz : Int), vs = [.ref p, .int w, .int at0, .int sz] ∧ BoardAt A.C H p dx aR as aT aL aS (newB rows) ∧ Pits rows ∧ 0 ≤ at0 ∧ at0 < (rows.length : Int) ∧ sz = ((rows.getD at0.toNat []).length : Int) ∧ w < 10 ∧
  ∀ c H', E (.ref (wcls A w)) c H'
def spTld0 (Cs : Addr) : Sp := fun vs H Q E => ∃ (R N : Addr), vs = [.ref R, .ref N] ∧ Mat H R [] [] ∧ ∀ H', Same H H' → E (.ref Cs) none H'
def spRd28 (Cb : Addr) : Sp := fun vs H Q E => ∃ k : Int, vs = [.str (headS k)] ∧ Nu k ∧ ∀ e H', E (.ref Cb) (some e) H'
theorem head_of (k : Int) : Str.ofString "board " ++ numS k = headS k := by
  unfold headS
  rw [show Str.ofString "board " = Str.ofString "board" ++ Str.ofString " " from by decide +kernel]
theorem head_nl {w : Int} (h : Nu w) : Txt.split (headS w) ⟨#[10]⟩ = [headS w] := by
  have := split_join 10 (ws := [headS w]) (by simp) (fun p hp => by
    rw [List.mem_singleton.mp hp, head_join]
    exact join_free (by decide) (headW_free h (by decide)))
  simpa [Str.join] using this
theorem laden_one {ls : List Int} {k : Nat} (h : k < ls.length) : ladenL (ls.set k 1) ≠ [] := fun z => by
  have : k ∈ ladenL (ls.set k 1) := List.mem_filter.mpr ⟨List.mem_range.mpr (by rw [List.length_set]; exact h), by rw [getD_get (by rw [List.length_set]; exact h)]; simp⟩
  rw [z] at this
  cases this
theorem mat1 {H : Hp} {l1 l2 : Addr} {x y : Int} (g1 : H l1 = none) (g2 : (upd H l1 (.lst [V.int x, V.int y])) l2 = none) : Mat (upd (upd H l1 (.lst [V.int x, V.int y])) l2 (.lst [V.ref l1])) l2 [l1] [[x, y]] := by
  have ne : l1 ≠ l2 := fun z => by rw [← z, upd_same] at g2; cases g2
  refine ⟨upd_same, rfl, fun j b r e1 e2 => ?_, by simp [Ne.symm ne]⟩
  match j, e1, e2 with
  | 0, e1, e2 => cases e1; cases e2; rw [upd_ne ne]; exact upd_same
  | j + 1, e1, _ => simp at e1
theorem mat2 {H : Hp} {l1 l2 l3 : Addr} {x y z : Int} (g1 : H l1 = none) (g2 : (upd H l1 (.lst [V.int x])) l2 = none) (g3 : (upd (upd H l1 (.lst [V.int x])) l2 (.lst [V.int y, V.int z])) l3 = none) :
    Mat (upd (upd (upd H l1 (.lst [V.int x])) l2 (.lst [V.int y, V.int z])) l3 (.lst [V.ref l1, V.ref l2])) l3 [l1, l2] [[x], [y, z]] := by
  have n12 : l1 ≠ l2 := fun z => by rw [← z, upd_same] at g2; cases g2
  have n23 : l2 ≠ l3 := fun z => by rw [← z, upd_same] at g3; cases g3
  have n13 : l1 ≠ l3 := fun z => by rw [← z, upd_ne n12, upd_same] at g3; cases g3
  refine ⟨upd_same, rfl, fun j b r e1 e2 => ?_, by simp [n12, Ne.symm n13, Ne.symm n23]⟩
  match j, e1, e2 with
  | 0, e1, e2 => cases e1; cases e2; rw [upd_ne n13, upd_ne n12]; exact upd_same
  | 1, e1, e2 => cases e1; cases e2; rw [upd_ne n23]; exact upd_same
  | j + 2, e1, _ => simp at e1
theorem wcls_ok {K : PySem.W.Frag} {mg : Str → Option Value} {A : Adr} (T : Txt K mg A) {w : Nat} (hw : w < 10) : wcls A w ≠ A.c_BoardError ∧ PySem.W.kitOne K (.ref (wcls A w)) (.ref A.c_BoardError) = some true := by
  rcases (show w = 0 ∨ w = 1 ∨ w = 2 ∨ w = 3 ∨ w = 4 ∨ w = 5 ∨ w = 6 ∨ w = 7 ∨ w = 8 ∨ w = 9 by omega) with rfl | rfl | rfl | rfl | rfl | rfl | rfl | rfl | rfl | rfl
  · exact ⟨T.ne_NoPlace_BoardError, T.p_NoPlace_BoardError⟩
  · exact ⟨T.ne_NoSite_BoardError, T.p_NoSite_BoardError⟩
  · exact ⟨T.ne_NoExit_BoardError, T.p_NoExit_BoardError⟩
  · exact ⟨T.ne_NoMarble_BoardError, T.p_NoMarble_BoardError⟩
  · exact ⟨T.ne_TooMany_BoardError, T.p_TooMany_BoardError⟩
  · exact ⟨T.ne_NotOpen_BoardError, T.p_NotOpen_BoardError⟩
  · exact ⟨T.ne_NotBare_BoardError, T.p_NotBare_BoardError⟩
  · exact ⟨T.ne_NotTree_BoardError, T.p_NotTree_BoardError⟩
  · exact ⟨T.ne_TooLong_BoardError, T.p_TooLong_BoardError⟩
  · exact ⟨T.ne_NoBoard_BoardError, T.p_NoBoard_BoardError⟩
section
variable {P : Program} {w : World} {K : PySem.W.Frag} {mg : Str → Option Value} {base : Heap} {A : Adr}
theorem sc_drawn : FnScope ["script", "k", "many", "cell", "mixed"] ["script", "k", "many"] (defScope s_drawn) := ⟨rfl, rfl, rfl, by decide +kernel, rfl, by decide +kernel, by decide +kernel⟩
theorem ok_drawn (T : Txt K mg A) : FnOk P w K mg base CX0 1 A.f_drawn A.fd_drawn ["script", "k", "many"] (spDrawn K) := by
  refine T.F_drawn.ok sc_drawn (fun vs H Q E h => ?_) (fun cdv A' outer s H vs Q E hr h => ?_)
  · obtain ⟨a, ns, k, many, rfl, _⟩ := h
    rfl
  · obtain ⟨a, ns, k, many, rfl, hS, hm, k1, k2, q⟩ := h
    refine ⟨_, (pss_cons (ps_set (i := 3) sc_drawn.nd rfl (Or.inl rfl) pe_int)
      (pss_cons (ps_if (pt_cmpR op_gt (pe_callB (call_lenK (K := K) rfl) (by rfl) T.n_len PySem.boot_len (pa_cons (pv 0) pa_nil)) pe_int (nomark _))
        (pss_one (ps_set (i := 3) sc_drawn.nd rfl (Or.inl rfl) (pe_ix (ix_listK (K := K) rfl) (pv 0) (pe_op op_mod (pv 1) (pe_callB (call_lenK (K := K) rfl) (by rfl) T.n_len PySem.boot_len (pa_cons (pv 0) pa_nil))) (fun _ _ => rfl))))
        pss_nil)
      (pss_cons (ps_set (i := 4) sc_drawn.nd rfl (Or.inl rfl) (pe_op op_add (pe_op op_add (pe_op op_mul (pv 3) (pe_op op_add pe_int (pe_op op_mul pe_int (pe_op op_mod (pv 1) pe_int)))) (pe_op op_mul (pe_op op_mul (pe_op op_add (pv 1) pe_int) (pe_op op_add (pv 1) pe_int)) pe_int)) (pe_callB (call_lenK (K := K) rfl) (by rfl) T.n_len PySem.boot_len (pa_cons (pv 0) pa_nil))))
      (pss_one (ps_ret (pe_op op_mod (pe_op op_fdiv (pe_op op_mod (pv 4) pe_int) pe_int) (pv 2))))))), ?_⟩
    have hl : (ns.map V.int).length = ns.length := by simp
    refine ⟨_, rfl, _, _, rfl, .inl hS, _, _, rfl, rfl, _, rfl, ?_⟩
    rw [hl]
    refine ite2 (fun hc => ?_) (fun hc => ?_)
    · have hc' : 0 < (ns.length : Int) := by simpa using hc
      refine ⟨_, rfl, _, rfl, _, rfl, _, _, rfl, .inl hS, _, _, rfl, rfl, (by rw [hl]; exact hc'), _, _, _, _, rfl, rfl, hS, at_ints (Int.emod_nonneg _ (by rw [hl]; omega)) (by rw [hl]; exact Int.emod_lt_of_pos _ hc'), ?_⟩
      refine ⟨_, rfl, _, rfl, _, _, rfl, rfl, (by show (0 : Int) < 97; decide), _, _, rfl, rfl, .inl ⟨by decide, by decide⟩, _, _, rfl, rfl, _, _, rfl, rfl, .inr ⟨by omega, by omega⟩,
        _, rfl, _, _, rfl, rfl, _, rfl, _, _, rfl, rfl, _, _, rfl, rfl, .inl ⟨by omega, by omega⟩, _, _, rfl, rfl, .inr ⟨by decide, by decide⟩, _, _, rfl, rfl, _, rfl, _, _, rfl, .inl hS, _, _, rfl, rfl, ?_⟩
      refine ⟨_, rfl, _, _, rfl, rfl, (by show (0 : Int) < 2147483647; decide), _, _, rfl, rfl, ⟨by decide, by decide⟩, _, rfl, _, _, rfl, rfl, hm, ?_⟩
      have e : drawn ns k many = (ns.getD (k % (ns.length : Int)).toNat 0 * (48271 + 9973 * (k % 97)) + (k + 1) * (k + 3) * 16807 + (ns.length : Int)) % 2147483647 / 16 % many := by
        unfold drawn
        rw [if_pos hc']
      rw [e] at q
      rw [hl]
      exact q
    · have hc' : ¬ 0 < (ns.length : Int) := by simpa using hc
      refine ⟨_, rfl, _, rfl, _, _, rfl, rfl, (by show (0 : Int) < 97; decide), _, _, rfl, rfl, .inl ⟨by decide, by decide⟩, _, _, rfl, rfl, _, _, rfl, rfl, .inr ⟨by omega, by omega⟩,
        _, rfl, _, _, rfl, rfl, _, rfl, _, _, rfl, rfl, _, _, rfl, rfl, .inl ⟨by omega, by omega⟩, _, _, rfl, rfl, .inr ⟨by decide, by decide⟩, _, _, rfl, rfl, _, rfl, _, _, rfl, .inl hS, _, _, rfl, rfl, ?_⟩
      refine ⟨_, rfl, _, _, rfl, rfl, (by show (0 : Int) < 2147483647; decide), _, _, rfl, rfl, ⟨by decide, by decide⟩, _, rfl, _, _, rfl, rfl, hm, ?_⟩
      have e : drawn ns k many = (7 * (48271 + 9973 * (k % 97)) + (k + 1) * (k + 3) * 16807 + (ns.length : Int)) % 2147483647 / 16 % many := by
        unfold drawn
        rw [if_neg hc']
      rw [e] at q
      rw [hl]
      exact q
theorem sc_check_row : FnScope ["row", "sites", "way"] ["row", "sites"] (defScope s_check_row) := ⟨rfl, rfl, rfl, by decide +kernel, rfl, by decide +kernel, by decide +kernel⟩
theorem ok_check_row (T : Txt K mg A) : FnOk P w K mg base (CX1 P w) 1 A.f_check_row A.fd_check_row ["row", "sites"] (spCheckRowX K A.c_NoExit) := by
  refine T.F_check_row.okX sc_check_row (fun vs H Q E h => ?_) (fun cdv A' outer s H vs Q E hr h => ?_)
  · obtain ⟨a, r, n, rfl, _⟩ := h
    rfl
  · obtain ⟨a, r, n, rfl, hS, bd, q, xe⟩ := h
    refine ⟨_, (pss_cons (ps_if (pt_not (pt_chain op_le op_le pe_int (pe_callB (call_lenK (K := K) rfl) (by rfl) T.n_len PySem.boot_len (pa_cons (pv 0) pa_nil)) (pe_glob (v := .int (8)) (by rfl) T.g_MOST_EXITS ⟨_, rfl⟩)))
        (pss_one (ps_raise raises_cx rfl (by rfl) T.m_NoExit T.x_NoExit (pa_cons (pe_fs (pj_str (by decide +kernel) (pj_int (pe_glob (v := .int (8)) (by rfl) T.g_MOST_EXITS ⟨_, rfl⟩) (pj_str (by decide +kernel) pj_nil))) (by decide)) pa_nil)))
        pss_nil)
      (pss_one (ps_for PassesOwn.leaving rfl (pi_listK (K := K) rfl (pv 0)) (pg_name (i := 2) sc_check_row.nd rfl (Or.inl rfl))
        (pss_one (ps_if (PW.pt (pw_and (pt_cmpR op_ne (pv 2) (pe_glob (v := .int (-1)) (by rfl) T.g_PIT ⟨_, rfl⟩) (nomark _)) (pw_and1 (pt_not (pt_chain op_le op_lt pe_int (pv 2) (pv 1))))))
          (pss_one (ps_raise raises_cx rfl (by rfl) T.m_NoExit T.x_NoExit (pa_cons (pe_fs (pj_str (by decide +kernel) (pj_int (pv 2) pj_nil)) (by decide)) pa_nil)))
          pss_nil))))), ?_⟩
    have hl : (r.map V.int).length = r.length := by simp
    refine ⟨_, rfl, _, _, rfl, .inl hS, _, _, rfl, rfl, _, rfl, ?_⟩
    rw [hl]
    by_cases c1 : (1 : Int) ≤ (r.length : Int)
    case neg =>
      rw [decide_eq_false c1]
      refine iteF ?_
      refine ⟨_, rfl, ?_⟩
      refine iteT ?_
      exact ⟨⟨_, rfl, by decide, rfl, trivial⟩, fun x => ⟨small12 (by show 1 ≤ 100; decide), xe (fun y => by have := y.1; omega)⟩⟩
    rw [decide_eq_true c1]
    refine iteT ?_
    refine ⟨_, _, rfl, rfl, _, rfl, ?_⟩
    by_cases c2 : (r.length : Int) ≤ 8
    case neg =>
      rw [decide_eq_false c2]
      refine iteT ?_
      exact ⟨⟨_, rfl, by decide, rfl, trivial⟩, fun x => ⟨small12 (by show 1 ≤ 100; decide), xe (fun y => by have := y.2.1; omega)⟩⟩
    rw [decide_eq_true c2]
    refine iteF ?_
    refine ⟨_, rfl, a, rfl, ⟨_, hS⟩, for_list (K := K) (a := a) (xs := r.map V.int) (fun i σ H2 => ∃ x2 : Option V, σ = [some (.ref a), some (.int (n : Int)), x2] ∧ H2 = H ∧ ∀ e ∈ r.take i, -1 ≤ e ∧ e < (n : Int)) ⟨none, rfl, rfl, by simp⟩ (fun i σ H2 _ ⟨_, _, e, _⟩ => by rw [e]; exact hS) ?_ ?_⟩
    · rintro i x' σ H2 hi ⟨x2, rfl, rfl, ih⟩
      obtain ⟨z, ez, rfl⟩ : ∃ z, r[i]? = some z ∧ x' = V.int z := by
        rw [List.getElem?_map] at hi
        cases e : r[i]? with
        | none => rw [e] at hi; cases hi
        | some z =>
          rw [e] at hi
          exact ⟨z, rfl, (Option.some.inj hi).symm⟩
      have hz : z ∈ r := List.mem_of_getElem? ez
      have go : -1 ≤ z ∧ z < (n : Int) → ∀ e ∈ r.take (i + 1), -1 ≤ e ∧ e < (n : Int) := fun hz' e he => by
        rw [take_snoc ez] at he
        rcases List.mem_append.mp he with y | y
        · exact ih e y
        · rw [List.mem_singleton.mp y]; exact hz'
      have bad : ¬ (-1 ≤ z ∧ z < (n : Int)) → ¬ RowOk n r := fun hn hw => hn (hw.2.2 z hz)
      have lg := log2_small (bd z hz).1 (bd z hz).2
      refine ⟨_, rfl, rfl, _, rfl, ?_⟩
      by_cases hp : z = -1
      · subst hp
        refine iteF ?_
        exact iteF ⟨_, rfl, rfl, go ⟨by omega, by omega⟩⟩
      · have e : decide (V.int z = V.int (-1)) = false := decide_eq_false (fun w => hp (by injection w))
        rw [e]
        refine iteT ?_
        refine ⟨_, rfl, _, _, rfl, rfl, _, rfl, ?_⟩
        by_cases h0 : 0 ≤ z
        · rw [decide_eq_true h0]
          refine iteT ?_
          refine ⟨_, rfl, _, _, rfl, rfl, _, rfl, ?_⟩
          by_cases h1 : z < (n : Int)
          · rw [decide_eq_true h1]
            exact iteF ⟨_, rfl, rfl, go ⟨by omega, h1⟩⟩
          · rw [decide_eq_false h1]
            refine iteT ?_
            exact ⟨⟨_, rfl, _, rfl, lg, rfl, trivial⟩, fun _ => ⟨small12 (by show 1 ≤ 100; decide), xe (bad (fun y => h1 y.2))⟩⟩
        · rw [decide_eq_false h0]
          refine iteF ?_
          refine ⟨_, rfl, ?_⟩
          refine iteT ?_
          exact ⟨⟨_, rfl, _, rfl, lg, rfl, trivial⟩, fun _ => ⟨small12 (by show 1 ≤ 100; decide), xe (bad (fun y => by omega))⟩⟩
    · rintro σ H2 ⟨x2, rfl, rfl, ih⟩
      rw [hl, List.take_of_length_le (Nat.le_refl _)] at ih
      exact q ⟨by omega, by omega, ih⟩
theorem sc_check_rows : FnScope ["rows", "row"] ["rows"] (defScope s_check_rows) := ⟨rfl, rfl, rfl, by decide +kernel, rfl, by decide +kernel, by decide +kernel⟩
theorem ok_check_rows (T : Txt K mg A) (G_check_row : FnOk P w K mg base (CX1 P w) 1 A.f_check_row A.fd_check_row ["row", "sites"] (spCheckRowX K A.c_NoExit)) : FnOk P w K mg base (CX1 P w) 2 A.f_check_rows A.fd_check_rows ["rows"] (spCheckRowsX A.c_NoSite A.c_NoExit) := by
  refine T.F_check_rows.okX sc_check_rows (fun vs H Q E h => ?_) (fun cdv A' outer s H vs Q E hr h => ?_)
  · obtain ⟨a, as, rows, rfl, _⟩ := h
    rfl
  · obtain ⟨a, as, rows, rfl, M, bd, q, xs, xe⟩ := h
    refine ⟨_, (pss_cons (ps_if (pt_not (pt_chain op_le op_le pe_int (pe_callB (call_lenK (K := K) rfl) (by rfl) T.n_len PySem.boot_len (pa_cons (pv 0) pa_nil)) (pe_glob (v := .int (12)) (by rfl) T.g_MOST_SITES ⟨_, rfl⟩)))
        (pss_one (ps_raise raises_cx rfl (by rfl) T.m_NoSite T.x_NoSite (pa_cons (pe_fs (pj_str (by decide +kernel) (pj_int (pe_glob (v := .int (12)) (by rfl) T.g_MOST_SITES ⟨_, rfl⟩) (pj_str (by decide +kernel) pj_nil))) (by decide)) pa_nil)))
        pss_nil)
      (pss_one (ps_for PassesOwn.leaving rfl (pi_listK (K := K) rfl (pv 0)) (pg_name (i := 1) sc_check_rows.nd rfl (Or.inl rfl))
        (pss_one (ps_expr (pe_call G_check_row (hr.mono (by decide)) (by rfl) T.m_check_row T.k_check_row T.b_check_row .nil passX (pa_cons (pv 1) (pa_cons (pe_callB (call_lenK (K := K) rfl) (by rfl) T.n_len PySem.boot_len (pa_cons (pv 0) pa_nil)) pa_nil)))))))), ?_⟩
    have hl := M.reflen
    refine ⟨_, rfl, _, _, rfl, .inl M.sq, _, _, rfl, rfl, _, rfl, ?_⟩
    rw [hl]
    by_cases c1 : (1 : Int) ≤ (rows.length : Int)
    case neg =>
      rw [decide_eq_false c1]
      refine iteF ?_
      refine ⟨_, rfl, ?_⟩
      refine iteT ?_
      exact ⟨⟨_, rfl, by decide, rfl, trivial⟩, fun x => ⟨small12 (by show 1 ≤ 100; decide), xs (fun y => by omega)⟩⟩
    rw [decide_eq_true c1]
    refine iteT ?_
    refine ⟨_, _, rfl, rfl, _, rfl, ?_⟩
    by_cases c2 : (rows.length : Int) ≤ 12
    case neg =>
      rw [decide_eq_false c2]
      refine iteT ?_
      exact ⟨⟨_, rfl, by decide, rfl, trivial⟩, fun x => ⟨small12 (by show 1 ≤ 100; decide), xs (fun y => by omega)⟩⟩
    rw [decide_eq_true c2]
    refine iteF ?_
    refine ⟨_, rfl, a, rfl, ⟨_, M.sq⟩, for_list (K := K) (a := a) (xs := as.map V.ref) (fun i σ H2 => ∃ x1 : Option V, σ = [some (.ref a), x1] ∧ H2 = H ∧ ∀ r ∈ rows.take i, RowOk rows.length r) ⟨none, rfl, rfl, by simp⟩ (fun i σ H2 _ ⟨_, _, e, _⟩ => by rw [e]; exact M.sq) ?_ ?_⟩
    · rintro i x σ H2 hi ⟨x1, rfl, rfl, ih⟩
      obtain ⟨c, hi', rfl, ec, hc, _⟩ := M.refs hi
      refine ⟨_, rfl, _, rfl, _, _, rfl, .inl M.sq, c, rows[i], rows.length, (by rw [hl]; rfl), SqL.of hc, bd _ (List.getElem_mem hi'), fun ok => ?_, fun no => ?_⟩
      · refine ⟨_, rfl, rfl, fun r hr' => ?_⟩
        rw [take_snoc (List.getElem?_eq_getElem hi')] at hr'
        rcases List.mem_append.mp hr' with y | y
        · exact ih r y
        · rw [List.mem_singleton.mp y]; exact ok
      · exact xe ⟨by omega, by omega⟩ (fun W => no (W.2.2 _ (List.getElem_mem hi')))
    · rintro σ H2 ⟨x1, rfl, rfl, ih⟩
      rw [hl, List.take_of_length_le (Nat.le_refl _)] at ih
      exact q ⟨by omega, by omega, ih⟩
theorem sc_Binit : FnScope ["self", "rows"] ["self", "rows"] (defScope s_Binit) := ⟨rfl, rfl, rfl, by decide +kernel, rfl, by decide +kernel, by decide +kernel⟩
theorem ok_Binit (T : Txt K mg A) (G_check_rows : FnOk P w K mg base (CX1 P w) 2 A.f_check_rows A.fd_check_rows ["rows"] (spCheckRowsX A.c_NoSite A.c_NoExit)) : FnOk P w K mg base (CX1 P w) 3 A.f_Binit A.fd_Binit ["self", "rows"] (spInitX A.C A.c_NoSite A.c_NoExit) := by
  refine T.F_Binit.okX sc_Binit (fun vs H Q E h => ?_) (fun cdv A' outer s H vs Q E hr h => ?_)
  · obtain ⟨p, dx, aH, asH, rows, rfl, _⟩ := h
    rfl
  · obtain ⟨p, dx, aH, asH, rows, rfl, hp, M, bd, q0, xs, xe⟩ := h
    refine ⟨_, (pss_cons (ps_expr (pe_call G_check_rows (hr.mono (by decide)) (by rfl) T.m_check_rows T.k_check_rows T.b_check_rows .nil passX (pa_cons (pv 1) pa_nil)))
      (pss_cons (ps_fldK (K := K) rfl (pv 0) (pe_comp (CompSc.of (N' := ["row"]) (ix := [none]) rfl (by kernel_rfl)) rfl rfl rfl rfl (pi_listK (K := K) rfl (pv 1)) (by exact fun _ _ _ _ _ => pf_nil) (by exact fun _ _ _ _ _ => (pe_callTy (call_listK (K := K) rfl) (by rfl) T.n_list PyProof.Rows.Boot.«list» (pa_cons (pv 0) pa_nil))) (fun _ => rfl)) rfl)
      (pss_cons (ps_fldK (K := K) rfl (pv 0) (pe_op op_rep (pe_lst (pa_cons pe_int pa_nil)) (pe_callB (call_lenK (K := K) rfl) (by rfl) T.n_len PySem.boot_len (pa_cons (pv 1) pa_nil))) rfl)
      (pss_cons (ps_fldK (K := K) rfl (pv 0) (pe_op op_rep (pe_lst (pa_cons pe_int pa_nil)) (pe_callB (call_lenK (K := K) rfl) (by rfl) T.n_len PySem.boot_len (pa_cons (pv 1) pa_nil))) rfl)
      (pss_cons (ps_fldK (K := K) rfl (pv 0) (pe_op op_rep (pe_lst (pa_cons pe_int pa_nil)) (pe_callB (call_lenK (K := K) rfl) (by rfl) T.n_len PySem.boot_len (pa_cons (pv 1) pa_nil))) rfl)
      (pss_one (ps_fldK (K := K) rfl (pv 0) pe_int rfl))))))), ?_⟩
    have hl := M.reflen
    refine ⟨_, rfl, aH, asH, rows, rfl, M, bd, fun W => ?_, xs, xe⟩
    obtain ⟨h1, h12, hrow⟩ := id W
    have q := q0 W
    refine ⟨_, rfl, aH, rfl, ⟨_, M.sq⟩, ?_⟩
    refine comp_news (ls := rows.map fun r => r.map V.int) (wk_list M.sq) (by rw [hl]; exact small12 (by omega)) (by rw [List.length_map, hl]) (fun i x l H3 ex el s3 Q' q' => ?_) (fun as H1 s1 hlen nd fr hrows aR hR => ?_)
    · obtain ⟨c, hi', rfl, ec, hc, _⟩ := M.refs ex
      rw [List.getElem?_map, List.getElem?_eq_getElem hi'] at el
      cases el
      exact ⟨_, rfl, _, _, rfl, .inl (SqL.of (s3 _ _ hc)), q'⟩
    · rw [List.length_map] at hlen
      have MR := mat_of (H := H) (R := aR) hlen nd s1 hrows hR
      have hp1 := s1 _ _ hp
      have npR : p ≠ aR := ne_of_none hp1 hR
      refine ⟨_, rfl, p, A.C, dx, [], rfl, (by rw [upd_ne npR]; exact hp1), T.cl_Board, T.na_rows, (by show 0 < 1000; decide), ?_⟩
      generalize hH2 : upd (upd H1 aR (.lst (as.map V.ref))) p (.ins A.C dx (putF "rows" (.ref aR) [])) = H2
      have e2p : H2 p = some (.ins A.C dx (putF "rows" (.ref aR) [])) := by rw [← hH2]; exact upd_same
      have e2 : ∀ c, c ≠ p → H2 c = upd H1 aR (.lst (as.map V.ref)) c := fun c hc => by rw [← hH2]; exact upd_ne hc
      have M1 : SqL K H2 aH (asH.map V.ref) := by
        have := s1 _ _ M.hd
        refine SqL.of ?_
        rw [e2 aH (ne_of M.hd hp (by intro z; cases z)), upd_ne (ne_of_none this hR)]
        exact this
      have zz : ∀ k : Nat, (List.replicate k [V.int 0]).flatten = (List.replicate k (0 : Int)).map V.int := fun k => by
        induction k with
        | zero => rfl
        | succ k ih => rw [List.replicate_succ, List.flatten_cons, ih, List.replicate_succ]; rfl
      refine ⟨small12 (by show 1 ≤ 100; decide), fun l1 hl1 => ⟨_, rfl, _, _, rfl, .inl ((same_new hl1).seq M1), l1, _, _, rfl, rfl, upd_same, by omega, by omega, by rw [hl]; exact small12 (by simp; omega), fun aT hT => ?_⟩⟩
      have nT1 : aT ≠ l1 := fun z => by rw [z, upd_same] at hT; cases hT
      rw [upd_ne nT1] at hT
      have npl : p ≠ l1 := ne_of_none e2p hl1
      have npT : p ≠ aT := ne_of_none e2p hT
      refine ⟨_, rfl, p, A.C, dx, _, rfl, (by rw [upd_ne npT, upd_ne npl]; exact e2p), T.cl_Board, T.na_turns, (by show 1 < 1000; decide), ?_⟩
      rw [hl, Int.toNat_natCast, zz]
      generalize hH3 : upd (upd (upd H2 l1 (.lst [V.int 0])) aT (.lst ((List.replicate rows.length (0 : Int)).map V.int))) p (.ins A.C dx (putF "turns" (.ref aT) (putF "rows" (.ref aR) []))) = H3
      have e3p : H3 p = some (.ins A.C dx (putF "turns" (.ref aT) (putF "rows" (.ref aR) []))) := by rw [← hH3]; exact upd_same
      have e3T : H3 aT = some (.lst ((List.replicate rows.length (0 : Int)).map V.int)) := by rw [← hH3, upd_ne (Ne.symm npT)]; exact upd_same
      have e3 : ∀ c o, c ≠ p → H2 c = some o → H3 c = some o := fun c o hc e => by
        rw [← hH3, upd_ne hc, upd_ne (ne_of_none e hT), upd_ne (ne_of_none e hl1)]
        exact e
      have f3 : ∀ c, H3 c = none → H2 c = none := fun c e => by
        cases q : H2 c with
        | none => rfl
        | some o =>
          by_cases hc : c = p
          · rw [hc, e3p] at e; cases e
          · rw [e3 c o hc q] at e; cases e
      have M3 : H3 aH = some (.lst (asH.map V.ref)) := by
        rcases M1 with (m | ⟨o, m⟩) | m
        · exact e3 _ _ (ne_of M.hd hp (by intro z; cases z)) m
        · have := s1 _ _ M.hd
          rw [e2 aH (ne_of M.hd hp (by intro z; cases z)), upd_ne (ne_of_none this hR), this] at m
          cases m
        · have := s1 _ _ M.hd
          refine e3 _ _ (ne_of M.hd hp (by intro z; cases z)) ?_
          rw [e2 aH (ne_of M.hd hp (by intro z; cases z)), upd_ne (ne_of_none this hR)]
          exact this
      refine ⟨small12 (by show 1 ≤ 100; decide), fun l2 hl2 => ⟨_, rfl, _, _, rfl, .inl (SqL.of (same_new hl2 _ _ M3)), l2, _, _, rfl, rfl, upd_same, by omega, by omega, by rw [hl]; exact small12 (by simp; omega), fun aL hL => ?_⟩⟩
      have nL2 : aL ≠ l2 := fun z => by rw [z, upd_same] at hL; cases hL
      rw [upd_ne nL2] at hL
      have npl2 : p ≠ l2 := ne_of_none e3p hl2
      have npL : p ≠ aL := ne_of_none e3p hL
      refine ⟨_, rfl, p, A.C, dx, _, rfl, (by rw [upd_ne npL, upd_ne npl2]; exact e3p), T.cl_Board, T.na_loads, (by show 2 < 1000; decide), ?_⟩
      rw [hl, Int.toNat_natCast, zz]
      generalize hH4 : upd (upd (upd H3 l2 (.lst [V.int 0])) aL (.lst ((List.replicate rows.length (0 : Int)).map V.int))) p (.ins A.C dx (putF "loads" (.ref aL) (putF "turns" (.ref aT) (putF "rows" (.ref aR) [])))) = H4
      have e4p : H4 p = some (.ins A.C dx (putF "loads" (.ref aL) (putF "turns" (.ref aT) (putF "rows" (.ref aR) [])))) := by rw [← hH4]; exact upd_same
      have e4L : H4 aL = some (.lst ((List.replicate rows.length (0 : Int)).map V.int)) := by rw [← hH4, upd_ne (Ne.symm npL)]; exact upd_same
      have e4 : ∀ c o, c ≠ p → H3 c = some o → H4 c = some o := fun c o hc e => by
        rw [← hH4, upd_ne hc, upd_ne (ne_of_none e hL), upd_ne (ne_of_none e hl2)]
        exact e
      have f4 : ∀ c, H4 c = none → H3 c = none := fun c e => by
        cases q : H3 c with
        | none => rfl
        | some o =>
          by_cases hc : c = p
          · rw [hc, e4p] at e; cases e
          · rw [e4 c o hc q] at e; cases e
      have npH : aH ≠ p := ne_of M.hd hp (by intro z; cases z)
      have M4 := e4 _ _ npH M3
      refine ⟨small12 (by show 1 ≤ 100; decide), fun l3 hl3 => ⟨_, rfl, _, _, rfl, .inl (SqL.of (same_new hl3 _ _ M4)), l3, _, _, rfl, rfl, upd_same, by omega, by omega, by rw [hl]; exact small12 (by simp; omega), fun aS hS => ?_⟩⟩
      have nS3 : aS ≠ l3 := fun z => by rw [z, upd_same] at hS; cases hS
      rw [upd_ne nS3] at hS
      have npl3 : p ≠ l3 := ne_of_none e4p hl3
      have npS : p ≠ aS := ne_of_none e4p hS
      refine ⟨_, rfl, p, A.C, dx, _, rfl, (by rw [upd_ne npS, upd_ne npl3]; exact e4p), T.cl_Board, T.na_steps, (by show 3 < 1000; decide), ?_⟩
      rw [hl, Int.toNat_natCast, zz]
      refine ⟨_, rfl, p, A.C, dx, _, rfl, upd_same, T.cl_Board, T.na_taken, (by show 4 < 1000; decide), ?_⟩
      rw [upd_upd]
      rw [bflds_mk]
      generalize hH5 : upd (upd (upd H4 l3 (.lst [V.int 0])) aS (.lst ((List.replicate rows.length (0 : Int)).map V.int))) p (.ins A.C dx (bflds aR aT aL aS 0)) = H5
      have e5p : H5 p = some (.ins A.C dx (bflds aR aT aL aS 0)) := by rw [← hH5]; exact upd_same
      have e5S : H5 aS = some (.lst ((List.replicate rows.length (0 : Int)).map V.int)) := by rw [← hH5, upd_ne (Ne.symm npS)]; exact upd_same
      have e5 : ∀ c o, c ≠ p → H4 c = some o → H5 c = some o := fun c o hc e => by
        rw [← hH5, upd_ne hc, upd_ne (ne_of_none e hS), upd_ne (ne_of_none e hl3)]
        exact e
      have up : ∀ c o, c ≠ p → upd H1 aR (.lst (as.map V.ref)) c = some o → H5 c = some o := fun c o hc e => e5 c o hc (e4 c o hc (e3 c o hc (by rw [e2 c hc]; exact e)))
      have e5T : H5 aT = some (.lst ((List.replicate rows.length (0 : Int)).map V.int)) := e5 _ _ (Ne.symm npT) (e4 _ _ (Ne.symm npT) e3T)
      have e5L : H5 aL = some (.lst ((List.replicate rows.length (0 : Int)).map V.int)) := e5 _ _ (Ne.symm npL) e4L
      have pas : ∀ c ∈ aR :: as, c ≠ p := fun c hc z => by
        rcases List.mem_cons.mp hc with h | h
        · exact npR (by rw [← z, h])
        · have := fr c h
          rw [z, hp] at this
          cases this
      have MR5 : Mat H5 aR as rows := MR.keep fun c o hc e => up c o (pas c hc) e
      have hn2 : ∀ c, H2 c = none → c ∉ aR :: as := fun c e hc => by
        rw [e2 c (pas c hc)] at e
        rcases List.mem_cons.mp hc with z | z
        · rw [z, upd_same] at e; cases e
        · obtain ⟨i, hi, ei⟩ := List.getElem_of_mem z
          obtain ⟨c', ec1, ec2, _⟩ := MR.get (i := i) (by rw [← hlen]; exact hi)
          rw [List.getElem?_eq_getElem hi, ei] at ec1
          cases ec1
          rw [ec2] at e; cases e
      have nLT : aL ≠ aT := fun z => by rw [z, e3T] at hL; cases hL
      have nST : aS ≠ aT := fun z => by rw [z, e4 _ _ (Ne.symm npT) e3T] at hS; cases hS
      have nSL : aS ≠ aL := fun z => by rw [z, e4L] at hS; cases hS
      have tH : ∀ c, H2 c = none → H c = none := fun c e => by
        cases q' : H c with
        | none => rfl
        | some o =>
          exfalso
          by_cases hc : c = p
          · rw [hc, e2p] at e; cases e
          · have := s1 _ _ q'
            rw [e2 c hc, upd_ne (ne_of_none this hR), this] at e
            cases e
      have nd5 : (p :: aT :: aL :: aS :: aR :: as).Nodup := by
        have x1 := hn2 aT hT
        have x2 := hn2 aL (f3 aL hL)
        have x3 := hn2 aS (f3 aS (f4 aS hS))
        simp only [List.nodup_cons, List.mem_cons, not_or] at x1 x2 x3 ⊢
        have y := MR.nd
        simp only [List.nodup_cons] at y
        refine ⟨⟨npT, npL, npS, npR, fun z => pas p (List.mem_cons_of_mem _ z) rfl⟩, ⟨Ne.symm nLT, Ne.symm nST, x1.1, x1.2⟩, ⟨Ne.symm nSL, x2.1, x2.2⟩, ⟨x3.1, x3.2⟩, y.1, y.2⟩
      refine q aR as aT aL aS H5 ⟨e5p, MR5, e5T, e5L, e5S, nd5⟩ (fun c o e hc => ?_) (fun c hc => ?_)
      · have := s1 _ _ e
        exact up c o hc (by rw [upd_ne (ne_of_none this hR)]; exact this)
      · simp only [List.mem_cons] at hc
        rcases hc with z | z | z | z | z
        · rw [z]; exact tH _ hT
        · rw [z]; exact tH _ (f3 _ hL)
        · rw [z]; exact tH _ (f3 _ (f4 _ hS))
        · rw [z]; exact s1.free hR
        · exact fr c z
theorem sc_check_site : FnScope ["board", "at"] ["board", "at"] (defScope s_check_site) := ⟨rfl, rfl, rfl, by decide +kernel, rfl, by decide +kernel, by decide +kernel⟩
theorem ok_check_site (T : Txt K mg A) : FnOk P w K mg base (CX1 P w) 1 A.f_check_site A.fd_check_site ["board", "at"] (spSite A.C A.c_NoSite) := by
  refine T.F_check_site.okX sc_check_site (fun vs H Q E h => ?_) (fun cdv A' outer s H vs Q E hr h => ?_)
  · obtain ⟨p, dx, aR, as, aT, aL, aS, b, z, rfl, _⟩ := h
    rfl
  · obtain ⟨p, dx, aR, as, aT, aL, aS, b, z, rfl, B, z1, z2, q1, q2⟩ := h
    refine ⟨_, (pss_one (ps_if (pt_not (pt_chain op_le op_lt pe_int (pv 1) (pe_callB (call_lenK (K := K) rfl) (by rfl) T.n_len PySem.boot_len (pa_cons (pe_fldK (K := K) rfl (pv 0) rfl) pa_nil))))
        (pss_one (ps_raise raises_cx rfl (by rfl) T.m_NoSite T.x_NoSite (pa_cons (pe_fs (pj_str (by decide +kernel) (pj_int (pv 1) pj_nil)) (by decide)) pa_nil)))
        pss_nil)), ?_⟩
    have l1 := B.mat.reflen
    have lg := log2_small z1 z2
    refine ⟨_, rfl, _, _, rfl, rfl, _, rfl, ?_⟩
    by_cases h0 : 0 ≤ z
    · rw [decide_eq_true h0]
      refine iteT ?_
      refine ⟨_, rfl, p, A.C, dx, _, _, rfl, B.ob, T.cl_Board, T.na_rows, bf_rows _ _ _ _ _, _, _, rfl, .inl B.mat.sq, _, _, rfl, rfl, _, rfl, ?_⟩
      rw [l1]
      by_cases h1 : z < (b.rows.length : Int)
      · rw [decide_eq_true h1]
        exact iteF (q1 ⟨h0, h1⟩)
      · rw [decide_eq_false h1]
        refine iteT ?_
        exact ⟨⟨_, rfl, _, rfl, lg, rfl, trivial⟩, fun x => ⟨small12 (by show 1 ≤ 100; decide), q2 (fun w => h1 w.2)⟩⟩
    · rw [decide_eq_false h0]
      refine iteF ?_
      refine ⟨_, rfl, ?_⟩
      refine iteT ?_
      exact ⟨⟨_, rfl, _, rfl, lg, rfl, trivial⟩, fun x => ⟨small12 (by show 1 ≤ 100; decide), q2 (fun w => h0 w.1)⟩⟩
theorem sc_Bturn_to : FnScope ["self", "at", "place"] ["self", "at", "place"] (defScope s_Bturn_to) := ⟨rfl, rfl, rfl, by decide +kernel, rfl, by decide +kernel, by decide +kernel⟩
theorem ok_Bturn_to (T : Txt K mg A) (G_check_site : FnOk P w K mg base (CX1 P w) 1 A.f_check_site A.fd_check_site ["board", "at"] (spSite A.C A.c_NoSite)) : FnOk P w K mg base (CX1 P w) 2 A.f_Bturn_to A.fd_Bturn_to ["self", "at", "place"] (spTurn A.C A.c_NoSite A.c_NoPlace) := by
  refine T.F_Bturn_to.okX sc_Bturn_to (fun vs H Q E h => ?_) (fun cdv A' outer s H vs Q E hr h => ?_)
  · obtain ⟨p, dx, aR, as, aT, aL, aS, b, z, y, rfl, _⟩ := h
    rfl
  · obtain ⟨p, dx, aR, as, aT, aL, aS, b, z, y, rfl, B, hl, z1, z2, y1, y2, q1, q2, q3⟩ := h
    refine ⟨_, (pss_cons (ps_expr (pe_call G_check_site (hr.mono (by decide)) (by rfl) T.m_check_site T.k_check_site T.b_check_site .nil passX (pa_cons (pv 0) (pa_cons (pv 1) pa_nil))))
      (pss_cons (ps_if (pt_not (pt_chain op_le op_lt pe_int (pv 2) (pe_callB (call_lenK (K := K) rfl) (by rfl) T.n_len PySem.boot_len (pa_cons (pe_ix (ix_listK (K := K) rfl) (pe_fldK (K := K) rfl (pv 0) rfl) (pv 1) (fun _ _ => rfl)) pa_nil))))
        (pss_one (ps_raise raises_cx rfl (by rfl) T.m_NoPlace T.x_NoPlace (pa_cons (pe_fs (pj_str (by decide +kernel) (pj_int (pv 1) (pj_str (by decide +kernel) (pj_int (pv 2) pj_nil)))) (by decide)) pa_nil)))
        pss_nil)
      (pss_one (ps_asg (pv 2) (pg_sub (pe_fldK (K := K) rfl (pv 0) rfl) (pv 1) set_list))))), ?_⟩
    have lg := log2_small z1 z2
    have lgy := log2_small y1 y2
    refine ⟨_, rfl, _, rfl, p, dx, aR, as, aT, aL, aS, b, z, rfl, B, z1, z2, fun hz => ?_, q1⟩
    obtain ⟨c, hat, hc, _⟩ := B.mat.at hz.1 hz.2
    have hlr : ((b.rows.getD z.toNat []).map V.int).length = (b.rows.getD z.toNat []).length := by simp
    refine ⟨_, rfl, _, _, rfl, rfl, _, rfl, ?_⟩
    by_cases h0 : 0 ≤ y
    · rw [decide_eq_true h0]
      refine iteT ?_
      refine ⟨_, rfl, p, A.C, dx, _, _, rfl, B.ob, T.cl_Board, T.na_rows, bf_rows _ _ _ _ _, _, rfl, _, _, _, _, rfl, rfl, B.mat.sq, hat, _, _, rfl, .inl (SqL.of hc), _, _, rfl, rfl, _, rfl, ?_⟩
      rw [hlr]
      by_cases h1 : y < ((b.rows.getD z.toNat []).length : Int)
      · rw [decide_eq_true h1]
        refine iteF ?_
        refine ⟨_, rfl, _, rfl, p, A.C, dx, _, _, rfl, B.ob, T.cl_Board, T.na_turns, bf_turns _ _ _ _ _, _, rfl, aT, _, _, _, rfl, rfl, B.hT, ixN_in hz.1 (by rw [List.length_map, hl]; exact hz.2), ?_⟩
        rw [map_set_int]
        exact q3 hz ⟨h0, h1⟩
      · rw [decide_eq_false h1]
        refine iteT ?_
        exact ⟨⟨_, rfl, _, rfl, lg, rfl, _, rfl, _, rfl, lgy, rfl, trivial⟩, fun x => ⟨small12 (by show 1 ≤ 100; decide), q2 hz (fun w => h1 w.2)⟩⟩
    · rw [decide_eq_false h0]
      refine iteF ?_
      refine ⟨_, rfl, ?_⟩
      refine iteT ?_
      exact ⟨⟨_, rfl, _, rfl, lg, rfl, _, rfl, _, rfl, lgy, rfl, trivial⟩, fun x => ⟨small12 (by show 1 ≤ 100; decide), q2 hz (fun w => h0 w.1)⟩⟩
theorem sc_Bload : FnScope ["self", "at", "many"] ["self", "at", "many"] (defScope s_Bload) := ⟨rfl, rfl, rfl, by decide +kernel, rfl, by decide +kernel, by decide +kernel⟩
theorem ok_Bload (T : Txt K mg A) (G_check_site : FnOk P w K mg base (CX1 P w) 1 A.f_check_site A.fd_check_site ["board", "at"] (spSite A.C A.c_NoSite)) : FnOk P w K mg base (CX1 P w) 2 A.f_Bload A.fd_Bload ["self", "at", "many"] (spLoad A.C A.c_NoSite A.c_TooMany) := by
  refine T.F_Bload.okX sc_Bload (fun vs H Q E h => ?_) (fun cdv A' outer s H vs Q E hr h => ?_)
  · obtain ⟨p, dx, aR, as, aT, aL, aS, b, z, y, rfl, _⟩ := h
    rfl
  · obtain ⟨p, dx, aR, as, aT, aL, aS, b, z, y, rfl, B, hl, z1, z2, q1, q2, q3⟩ := h
    refine ⟨_, (pss_cons (ps_expr (pe_call G_check_site (hr.mono (by decide)) (by rfl) T.m_check_site T.k_check_site T.b_check_site .nil passX (pa_cons (pv 0) (pa_cons (pv 1) pa_nil))))
      (pss_cons (ps_if (pt_cmpR op_gt (pe_op op_add (pe_callB (call_sumK (K := K) rfl rfl) (by rfl) T.n_sum PyProof.Rows.Boot.«sum» (pa_cons (pe_fldK (K := K) rfl (pv 0) rfl) pa_nil)) (pv 2)) (pe_glob (v := .int (400)) (by rfl) T.g_MOST_MARBLES ⟨_, rfl⟩) (nomark _))
        (pss_one (ps_raise raises_cx rfl (by rfl) T.m_TooMany T.x_TooMany (pa_cons (pe_fs (pj_str (by decide +kernel) (pj_int (pe_glob (v := .int (400)) (by rfl) T.g_MOST_MARBLES ⟨_, rfl⟩) (pj_str (by decide +kernel) pj_nil))) (by decide)) pa_nil)))
        pss_nil)
      (pss_one (ps_augS (pe_fldK (K := K) rfl (pv 0) rfl) (pv 1) (get_listK (K := K) rfl) (pv 2) ip_add set_list)))), ?_⟩
    refine ⟨_, rfl, _, rfl, p, dx, aR, as, aT, aL, aS, b, z, rfl, B, z1, z2, fun hz => ?_, q1⟩
    refine ⟨_, rfl, p, A.C, dx, _, _, rfl, B.ob, T.cl_Board, T.na_loads, bf_loads _ _ _ _ _, aL, b.loads, rfl, SqL.of B.hL, _, rfl, _, _, rfl, rfl, _, _, rfl, rfl, _, rfl, ?_⟩
    by_cases hs : (400 : Int) < b.loads.sum + y
    · rw [decide_eq_true hs]
      refine iteT ?_
      exact ⟨⟨_, rfl, by decide, rfl, trivial⟩, fun x => ⟨small12 (by show 1 ≤ 100; decide), q2 hz hs⟩⟩
    · rw [decide_eq_false hs]
      refine iteF ?_
      have hz' : z < (b.loads.length : Int) := by rw [hl]; exact hz.2
      refine ⟨_, rfl, p, A.C, dx, _, _, rfl, B.ob, T.cl_Board, T.na_loads, bf_loads _ _ _ _ _, _, rfl, _, _, _, _, rfl, rfl, SqL.of B.hL, at_ints hz.1 hz', _, rfl, _, _, rfl, rfl, aL, _, _, _, rfl, rfl, B.hL, ixN_in hz.1 (by rw [List.length_map]; exact hz'), ?_⟩
      rw [map_set_int]
      exact q3 hz (by omega)
theorem sc_last_exit : FnScope ["board", "at"] ["board", "at"] (defScope s_last_exit) := ⟨rfl, rfl, rfl, by decide +kernel, rfl, by decide +kernel, by decide +kernel⟩
theorem ok_last_exit (T : Txt K mg A) (G_check_site : FnOk P w K mg base (CX1 P w) 1 A.f_check_site A.fd_check_site ["board", "at"] (spSite A.C A.c_NoSite)) : FnOk P w K mg base (CX1 P w) 2 A.f_last_exit A.fd_last_exit ["board", "at"] (spLast A.C A.c_NoSite) := by
  refine T.F_last_exit.okX sc_last_exit (fun vs H Q E h => ?_) (fun cdv A' outer s H vs Q E hr h => ?_)
  · obtain ⟨p, dx, aR, as, aT, aL, aS, b, z, rfl, _⟩ := h
    rfl
  · obtain ⟨p, dx, aR, as, aT, aL, aS, b, z, rfl, B, hl, z1, z2, q1, q2⟩ := h
    refine ⟨_, (pss_cons (ps_expr (pe_call G_check_site (hr.mono (by decide)) (by rfl) T.m_check_site T.k_check_site T.b_check_site .nil passX (pa_cons (pv 0) (pa_cons (pv 1) pa_nil))))
      (pss_one (ps_ret (pe_ix (ix_listK (K := K) rfl) (pe_ix (ix_listK (K := K) rfl) (pe_fldK (K := K) rfl (pv 0) rfl) (pv 1) (fun _ _ => rfl)) (pe_op op_sub (pe_ix (ix_listK (K := K) rfl) (pe_fldK (K := K) rfl (pv 0) rfl) (pv 1) (fun _ _ => rfl)) pe_int) (fun _ _ => rfl))))), ?_⟩
    refine ⟨_, rfl, _, rfl, p, dx, aR, as, aT, aL, aS, b, z, rfl, B, z1, z2, fun hz => ?_, q2⟩
    obtain ⟨t0, t1, q⟩ := q1 hz
    obtain ⟨c, hat, hc, _⟩ := B.mat.at hz.1 hz.2
    exact ⟨_, rfl, p, A.C, dx, _, _, rfl, B.ob, T.cl_Board, T.na_rows, bf_rows _ _ _ _ _, _, rfl, _, _, _, _, rfl, rfl, B.mat.sq, hat, _, rfl, p, A.C, dx, _, _, rfl, B.ob, T.cl_Board, T.na_turns, bf_turns _ _ _ _ _, _, rfl, _, _, _, _, rfl, rfl, SqL.of B.hT, at_ints hz.1 (by rw [hl]; exact hz.2), _, _, rfl, rfl, _, _, _, _, rfl, rfl, SqL.of hc, lastx_at t0 t1, q⟩
theorem sc_step : FnScope ["board", "at", "row", "way"] ["board", "at"] (defScope s_step) := ⟨rfl, rfl, rfl, by decide +kernel, rfl, by decide +kernel, by decide +kernel⟩
theorem ok_step (T : Txt K mg A) (G_check_site : FnOk P w K mg base (CX1 P w) 1 A.f_check_site A.fd_check_site ["board", "at"] (spSite A.C A.c_NoSite)) : FnOk P w K mg base (CX1 P w) 2 A.f_step A.fd_step ["board", "at"] (spStep A.C A.c_NoSite A.c_NoMarble) := by
  refine T.F_step.okX sc_step (fun vs H Q E h => ?_) (fun cdv A' outer s H vs Q E hr h => ?_)
  · obtain ⟨p, dx, aR, as, aT, aL, aS, b, z, rfl, _⟩ := h
    rfl
  · obtain ⟨p, dx, aR, as, aT, aL, aS, b, z, rfl, B, O, z1, z2, q1, q2, q3⟩ := h
    refine ⟨_, (pss_cons (ps_expr (pe_call G_check_site (hr.mono (by decide)) (by rfl) T.m_check_site T.k_check_site T.b_check_site .nil passX (pa_cons (pv 0) (pa_cons (pv 1) pa_nil))))
      (pss_cons (ps_if (pt_cmpR op_lt (pe_ix (ix_listK (K := K) rfl) (pe_fldK (K := K) rfl (pv 0) rfl) (pv 1) (fun _ _ => rfl)) pe_int (nomark _))
        (pss_one (ps_raise raises_cx rfl (by rfl) T.m_NoMarble T.x_NoMarble (pa_cons (pe_fs (pj_str (by decide +kernel) (pj_int (pv 1) pj_nil)) (by decide)) pa_nil)))
        pss_nil)
      (pss_cons (ps_set (i := 2) sc_step.nd rfl (Or.inl rfl) (pe_ix (ix_listK (K := K) rfl) (pe_fldK (K := K) rfl (pv 0) rfl) (pv 1) (fun _ _ => rfl)))
      (pss_cons (ps_set (i := 3) sc_step.nd rfl (Or.inl rfl) (pe_ix (ix_listK (K := K) rfl) (pv 2) (pe_ix (ix_listK (K := K) rfl) (pe_fldK (K := K) rfl (pv 0) rfl) (pv 1) (fun _ _ => rfl)) (fun _ _ => rfl)))
      (pss_cons (ps_augS (pe_fldK (K := K) rfl (pv 0) rfl) (pv 1) (get_listK (K := K) rfl) pe_int ip_sub set_list)
      (pss_cons (ps_if (pt_cmpR op_eq (pv 3) (pe_glob (v := .int (-1)) (by rfl) T.g_PIT ⟨_, rfl⟩) (nomark _))
        (pss_one (ps_fldaug (pv 0) pe_int in_add))
        (pss_one (ps_augS (pe_fldK (K := K) rfl (pv 0) rfl) (pv 3) (get_listK (K := K) rfl) pe_int ip_add set_list)))
      (pss_cons (ps_asg (pe_op op_mod (pe_op op_add (pe_ix (ix_listK (K := K) rfl) (pe_fldK (K := K) rfl (pv 0) rfl) (pv 1) (fun _ _ => rfl)) pe_int) (pe_callB (call_lenK (K := K) rfl) (by rfl) T.n_len PySem.boot_len (pa_cons (pv 2) pa_nil))) (pg_sub (pe_fldK (K := K) rfl (pv 0) rfl) (pv 1) set_list))
      (pss_cons (ps_augS (pe_fldK (K := K) rfl (pv 0) rfl) (pv 1) (get_listK (K := K) rfl) pe_int ip_add set_list)
      (pss_one (ps_ret (pv 3))))))))))), ?_⟩
    have lg := log2_small z1 z2
    refine ⟨_, rfl, _, rfl, p, dx, aR, as, aT, aL, aS, b, z, rfl, B, z1, z2, fun hz => ?_, q1⟩
    have z0 := hz.1
    have hs : z.toNat < b.rows.length := by omega
    obtain ⟨t0, t1⟩ := O.T.2 z.toNat hs
    obtain ⟨x0, x1⟩ := exit_in O.W O.T hs
    obtain ⟨c, hat, hc, hca⟩ := B.mat.at hz.1 hz.2
    have hlr : ((b.rows.getD z.toNat []).map V.int).length = (b.rows.getD z.toNat []).length := by simp
    have hr' := row_len O.W hs
    have zl : z < (b.loads.length : Int) := by rw [O.L]; exact hz.2
    have zt : z < (b.turns.length : Int) := by rw [O.T.1]; exact hz.2
    have zs : z < (b.steps.length : Int) := by rw [O.S]; exact hz.2
    refine ⟨_, rfl, p, A.C, dx, _, _, rfl, B.ob, T.cl_Board, T.na_loads, bf_loads _ _ _ _ _, _, rfl, _, _, _, _, rfl, rfl, SqL.of B.hL, at_ints z0 zl, _, _, rfl, rfl, _, rfl, ?_⟩
    by_cases h1 : b.loads.getD z.toNat 0 < 1
    · rw [decide_eq_true h1]
      refine iteT ?_
      exact ⟨⟨_, rfl, _, rfl, lg, rfl, trivial⟩, fun x => ⟨small12 (by show 1 ≤ 100; decide), q2 hz h1⟩⟩
    rw [decide_eq_false h1]
    refine iteF ?_
    have h1' : 1 ≤ b.loads.getD z.toNat 0 := by omega
    refine ⟨_, rfl, p, A.C, dx, _, _, rfl, B.ob, T.cl_Board, T.na_rows, bf_rows _ _ _ _ _, _, rfl, _, _, _, _, rfl, rfl, B.mat.sq, hat, ?_⟩
    refine ⟨_, rfl, _, rfl, p, A.C, dx, _, _, rfl, B.ob, T.cl_Board, T.na_turns, bf_turns _ _ _ _ _, _, rfl, _, _, _, _, rfl, rfl, SqL.of B.hT, at_ints z0 zt, _, _, _, _, rfl, rfl, SqL.of hc, at_ints t0 t1, ?_⟩
    rw [show (b.rows.getD z.toNat []).getD (b.turns.getD z.toNat 0).toNat 0 = exitOf b.rows b.turns z.toNat from rfl]
    generalize hg : exitOf b.rows b.turns z.toNat = g at x0 x1 q3
    refine ⟨_, rfl, p, A.C, dx, _, _, rfl, B.ob, T.cl_Board, T.na_loads, bf_loads _ _ _ _ _, _, rfl, _, _, _, _, rfl, rfl, SqL.of B.hL, at_ints z0 zl, _, _, rfl, rfl, aL, _, _, _, rfl, rfl, B.hL, ixN_in z0 (by rw [List.length_map]; exact zl), ?_⟩
    rw [map_set_int]
    have B1 := B.setL (b.loads.set z.toNat (b.loads.getD z.toNat 0 - 1))
    have f1 : ∀ x, x ∉ p :: aT :: aL :: aS :: aR :: as → (upd H aL (.lst ((b.loads.set z.toNat (b.loads.getD z.toNat 0 - 1)).map V.int))) x = H x := fun x hx => upd_ne (fun y => hx (by rw [y]; simp))
    generalize upd H aL (.lst ((b.loads.set z.toNat (b.loads.getD z.toNat 0 - 1)).map V.int)) = H1 at B1 f1
    dsimp only [gName]
    refine seq_mk' (fun σ' H' => σ' = [some (.ref p), some (.int z), some (.ref c), some (.int g)] ∧ BoardAt A.C H' p dx aR as aT aL aS { b with loads := moveL b.loads z.toNat g, taken := moveT b.taken g } ∧ ∀ x, x ∉ p :: aT :: aL :: aS :: aR :: as → H' x = H x) ?rest (fun D1 rest => ?way)
    case way =>
      refine ⟨_, rfl, rfl, _, rfl, ?_⟩
      by_cases hp : g = -1
      · subst hp
        refine iteT ?_
        refine ⟨_, rfl, p, A.C, dx, _, _, rfl, B1.ob, T.cl_Board, T.na_taken, bf_taken _ _ _ _ _, _, _, rfl, rfl, dx, _, B1.ob, (by show 5 < 1000; decide), ?_⟩
        rw [putF_taken]
        exact rest _ _ ⟨rfl, B1.setP _, fun x hx => by rw [upd_ne (fun y => hx (by rw [y]; simp))]; exact f1 x hx⟩
      · have e : decide (V.int g = V.int (-1)) = false := decide_eq_false (fun w => hp (by injection w))
        rw [e]
        refine iteF ?_
        have gl : g < ((b.loads.set z.toNat (b.loads.getD z.toNat 0 - 1)).length : Int) := by rw [List.length_set, O.L]; exact x1
        have g0 : 0 ≤ g := by omega
        refine ⟨_, rfl, p, A.C, dx, _, _, rfl, B1.ob, T.cl_Board, T.na_loads, bf_loads _ _ _ _ _, _, rfl, _, _, _, _, rfl, rfl, SqL.of B1.hL, at_ints g0 gl, _, _, rfl, rfl, aL, _, _, _, rfl, rfl, B1.hL, ixN_in g0 (by rw [List.length_map]; exact gl), ?_⟩
        rw [map_set_int]
        have B2 := B1.setL ((b.loads.set z.toNat (b.loads.getD z.toNat 0 - 1)).set g.toNat ((b.loads.set z.toNat (b.loads.getD z.toNat 0 - 1)).getD g.toNat 0 + 1))
        refine rest _ _ ⟨rfl, ?_, fun x hx => by rw [upd_ne (fun y => hx (by rw [y]; simp))]; exact f1 x hx⟩
        have e1 : moveL b.loads z.toNat g = (b.loads.set z.toNat (b.loads.getD z.toNat 0 - 1)).set g.toNat ((b.loads.set z.toNat (b.loads.getD z.toNat 0 - 1)).getD g.toNat 0 + 1) := by unfold moveL; rw [if_neg hp]
        have e2 : moveT b.taken g = b.taken := by unfold moveT; rw [if_neg hp]
        rw [e1, e2]
        exact B2
    rintro σ' H' ⟨rfl, B2, f2⟩
    obtain ⟨c2, hat2, hc2, hca2⟩ := B2.mat.at (z := z) hz.1 hz.2
    rw [hca] at hca2
    cases hca2
    refine ⟨_, rfl, p, A.C, dx, _, _, rfl, B2.ob, T.cl_Board, T.na_turns, bf_turns _ _ _ _ _, _, rfl, _, _, _, _, rfl, rfl, SqL.of B2.hT, at_ints z0 zt, _, _, rfl, rfl, _, rfl, _, _, rfl, .inl (SqL.of hc2), _, _, rfl, rfl, by rw [hlr]; omega, _, rfl, p, A.C, dx, _, _, rfl, B2.ob, T.cl_Board, T.na_turns, bf_turns _ _ _ _ _, _, rfl, aT, _, _, _, rfl, rfl, B2.hT, ixN_in z0 (by rw [List.length_map]; exact zt), ?_⟩
    rw [hlr, map_set_int]
    have B3 := B2.setT (b.turns.set z.toNat ((b.turns.getD z.toNat 0 + 1) % ((b.rows.getD z.toNat []).length : Int)))
    refine ⟨_, rfl, p, A.C, dx, _, _, rfl, B3.ob, T.cl_Board, T.na_steps, bf_steps _ _ _ _ _, _, rfl, _, _, _, _, rfl, rfl, SqL.of B3.hS, at_ints z0 zs, _, _, rfl, rfl, aS, _, _, _, rfl, rfl, B3.hS, ixN_in z0 (by rw [List.length_map]; exact zs), ?_⟩
    rw [map_set_int]
    have B4 := B3.setS (b.steps.set z.toNat (b.steps.getD z.toNat 0 + 1))
    refine ⟨_, rfl, q3 hz h1' _ ?_ fun x hx => ?_⟩
    · have e : stepB b z.toNat = ⟨b.rows, b.turns.set z.toNat ((b.turns.getD z.toNat 0 + 1) % ((b.rows.getD z.toNat []).length : Int)), moveL b.loads z.toNat g, b.steps.set z.toNat (b.steps.getD z.toNat 0 + 1), moveT b.taken g⟩ := by rw [← hg]; rfl
      rw [e]
      exact B4
    · rw [upd_ne (fun y => hx (by rw [y]; simp)), upd_ne (fun y => hx (by rw [y]; simp))]
      exact f2 x hx
theorem sc_reached : FnScope ["rows", "known", "again", "at", "row"] ["rows"] (defScope s_reached) := ⟨rfl, rfl, rfl, by decide +kernel, rfl, by decide +kernel, by decide +kernel⟩
theorem ok_reached (T : Txt K mg A) : FnOk P w K mg base CX0 1 A.f_reached A.fd_reached ["rows"] (spReached K) := by
  refine T.F_reached.ok sc_reached (fun vs H Q E h => ?_) (fun cdv A' outer s H vs Q E hr h => ?_)
  · obtain ⟨R, as, rows, rfl, _⟩ := h
    rfl
  · obtain ⟨R, as, rows, rfl, M, w12, wi, wl, q⟩ := h
    have hu1 : _ + 1 < cLine := Nat.lt_of_le_of_lt (Nat.add_le_add_left (by decide : 1 ≤ 64) _) hr.units
    refine ⟨_, (pss_cons (ps_set (i := 1) sc_reached.nd rfl (Or.inr rfl) (pe_disp (pps_cons (pe_glob (v := .int (-1)) (by rfl) T.g_PIT ⟨_, rfl⟩) pe_bl pps_nil) rfl rfl (by simp) (by decide)))
      (pss_cons (ps_for PassesOwn.never rfl (pi_range1 (by rfl) T.n_range (pa_cons (pe_callB (call_lenK (K := K) rfl) (by rfl) T.n_len PySem.boot_len (pa_cons (pv 0) pa_nil)) pa_nil)) (pg_name (i := 2) sc_reached.nd rfl (Or.inl rfl))
        (pss_one (ps_for PassesOwn.never rfl (pi_enum (K := K) rfl (by rfl) T.n_enumerate (pa_cons (pv 0) pa_nil)) (pg_tup rfl (pgs_cons (pg_name (i := 3) sc_reached.nd rfl (Or.inl rfl)) (pgs_cons (pg_name (i := 4) sc_reached.nd rfl (Or.inl rfl)) pgs_nil)))
          (pss_one (ps_if (pt_val (pe_callB (call_anyK (K := K) rfl rfl) (by rfl) T.n_any PyProof.Rows.Boot.«any» (pa_cons (pe_comp (CompSc.of (N' := ["way", "known"]) (ix := [none, some 1]) rfl (by kernel_rfl)) rfl rfl rfl rfl (pi_listK (K := K) rfl (pv 4)) (by exact fun _ _ _ _ _ => pf_nil) (by exact fun _ _ _ _ _ => (pe_cmp (pc_din hu1 (pv 0) (pv 1)) (by with_unfolding_all rfl))) (fun _ => rfl)) pa_nil)))
            (pss_one (ps_dput hu1 (pv 1) (pv 3) pe_bl rfl))
            pss_nil)))))
      (pss_one (ps_ret (pe_comp (CompSc.of (N' := ["at", "known"]) (ix := [none, some 1]) rfl (by kernel_rfl)) rfl rfl rfl rfl (pi_range1 (by rfl) T.n_range (pa_cons (pe_callB (call_lenK (K := K) rfl) (by rfl) T.n_len PySem.boot_len (pa_cons (pv 0) pa_nil)) pa_nil)) (by exact fun _ _ _ _ _ => pf_nil) (by exact fun _ _ _ _ _ => (pe_cmp (pc_din hu1 (pv 0) (pv 1)) (by with_unfolding_all rfl))) (fun _ => rfl)))))), ?_⟩
    have hl := M.reflen
    refine fun kA hkA => ⟨upd_same, [(.inl (-1), .bl true)], rfl, by decide, ?_⟩
    rw [upd_upd]
    have s1 : Same H (upd H kA (.dK (mergeK [] [(.inl (-1), .bl true)]))) := same_new hkA
    have e1 : upd H kA (.dK (mergeK [] [(.inl (-1), .bl true)])) kA = some (.dK [(.inl (-1), .bl true)]) := upd_same
    generalize upd H kA (.dK (mergeK [] [(.inl (-1), .bl true)])) = H1 at s1 e1
    have M1 := M.same s1
    refine ⟨_, rfl, _, _, rfl, .inl M1.sq, _, rfl, by omega, by omega, ?_⟩
    have en : (((as.map V.ref).length : Nat) : Int).toNat = rows.length := by rw [hl]; simp
    rw [en]
    refine for_rangeN (fun j σ H2 => ∃ (kvs : List (Key × V)) (x2 x3 x4 : Option V), σ = [some (.ref R), some (.ref kA), x2, x3, x4] ∧ H2 kA = some (.dK kvs) ∧ Same H H2 ∧ kvs.length ≤ 1 + 12 * j ∧ kn kvs (-1) = true ∧ (∀ z, kn kvs z = true → z = -1 ∨ 0 ≤ z ∧ rch rows z.toNat = true) ∧ ∀ i, reachN rows j i = true → kn kvs (i : Int) = true)
      ⟨_, none, none, none, rfl, e1, s1, by decide, by decide, fun z hz => .inl (by unfold kn at hz; by_cases h : z = -1; exact h; rw [valV_neg (fun w => h (by injection w with w; exact w.symm)), valV_nil] at hz; cases hz), fun i hi => by cases hi⟩ ?_ ?_
    · rintro j σ H2 hj ⟨kvs, x2, x3, x4, rfl, e2, s2, n2, k1, ks, kc⟩ DD hDD
      have M2 := M.same s2
      refine ⟨_, rfl, R, _, rfl, M2.sq, ?_⟩
      refine for_enumN (fun i σ H3 => ∃ (kvs : List (Key × V)) (x3 x4 : Option V), σ = [some (.ref R), some (.ref kA), some (.int (0 + (j : Int))), x3, x4] ∧ H3 kA = some (.dK kvs) ∧ Same H H3 ∧ kvs.length ≤ 1 + 12 * j + i ∧ kn kvs (-1) = true ∧ (∀ z, kn kvs z = true → z = -1 ∨ 0 ≤ z ∧ rch rows z.toNat = true) ∧ (∀ i, reachN rows j i = true → kn kvs (i : Int) = true) ∧ ∀ i', i' < i → reachN rows (j + 1) i' = true → kn kvs (i' : Int) = true)
        ⟨kvs, x3, x4, rfl, e2, s2, n2, k1, ks, kc, fun i' h => by omega⟩ (fun i σ H3 _ ⟨_, _, _, _, _, s3, _⟩ => (M.same s3).sq) ?_ ?_
      · rintro i x σ H3 p hx ⟨kvs, x3, x4, rfl, e3, s3, n3, k1, ks, kc, kd⟩ hp D3 hD3
        obtain ⟨c, hi', rfl, ec, hc, _⟩ := (M.same s3).refs hx
        have s4 := same_new hp (o := .tup [.int (i : Int), .ref c])
        have e4 := s4 _ _ e3
        have hc4 := s4 _ _ hc
        refine ⟨p, _, rfl, SqT.of upd_same, rfl, _, _, rfl, _, _, rfl, rfl, ?_⟩
        have s14 := s3.trans s4
        generalize upd H3 p (.tup [.int (i : Int), .ref c]) = H4 at e4 hc4 s14
        have wrl := wl _ (List.getElem_mem hi')
        refine ⟨_, rfl, c, rfl, ⟨_, SqL.of hc4⟩, ?_⟩
        refine comp_pure (ys := ((rows[i]).map (kn kvs)).map V.bl) (wk_list (K := K) (SqL.of hc4)) (by rw [List.length_map]; exact small12 wrl) (by simp) (fun m x y ex ey Q' q' => ?_) (fun L hL => ?_)
        · rw [List.getElem?_map] at ex ey
          rw [List.getElem?_map] at ey
          cases er : (rows[i])[m]? with
          | none => rw [er] at ex; cases ex
          | some e =>
            rw [er] at ex ey
            cases ex
            cases ey
            exact ⟨_, rfl, _, rfl, kA, _, rfl, DGet.k (k := .inl e) e4, q'⟩
        refine ⟨L, (rows[i]).map (kn kvs), rfl, SqL.of upd_same, _, rfl, ?_⟩
        have s5 : Same H (upd H4 L (.lst (((rows[i]).map (kn kvs)).map V.bl))) := same_upd s14 (s14.free hL)
        have e5 := same_new hL (o := .lst (((rows[i]).map (kn kvs)).map V.bl)) _ _ e4
        generalize upd H4 L (.lst (((rows[i]).map (kn kvs)).map V.bl)) = H5 at s5 e5
        have gi : rows.getD i [] = rows[i] := getD_get hi'
        refine ite2 (fun ha => ?_) (fun ha => ?_)
        · obtain ⟨b', hb', hb1⟩ := List.any_eq_true.mp ha
          obtain ⟨e, he, rfl⟩ := List.mem_map.mp hb'
          have hri : rch rows i = true := rch_step (by rw [gi]; exact he) (ks e hb1)
          refine ⟨_, rfl, _, rfl, kA, _, rfl, DPut.k (k := .inl (i : Int)) e5 (small1000 (by omega)), ?_⟩
          refine hD3 _ _ ⟨_, _, _, rfl, upd_same, ?_, ?_, ?_, fun z hz => ?_, fun i' h' => ?_, fun i' hi2 h' => ?_⟩
          · intro b o hb
            rw [upd_ne (ne_of_none hb hkA)]
            exact s5 b o hb
          · have := length_putK kvs (.inl (i : Int)) (.bl true)
            omega
          · rw [kn_put, k1, Bool.or_true]
          · rw [kn_put, Bool.or_eq_true] at hz
            rcases hz with hz | hz
            · rw [of_decide_eq_true hz]
              exact .inr ⟨by omega, by simpa using hri⟩
            · exact ks z hz
          · rw [kn_put, kc i' h', Bool.or_true]
          · rw [kn_put]
            by_cases hii : i' = i
            · subst hii; simp
            · rw [kd i' (by omega) h', Bool.or_true]
        · refine hD3 _ _ ⟨kvs, _, _, rfl, e5, s5, by omega, k1, ks, kc, fun i' hi2 h' => ?_⟩
          by_cases hii : i' = i
          · subst hii
            exfalso
            apply ha
            rw [reachN] at h'
            obtain ⟨e, he, q'⟩ := List.any_eq_true.mp h'
            rw [gi] at he
            refine List.any_eq_true.mpr ⟨_, List.mem_map.mpr ⟨e, he, rfl⟩, ?_⟩
            rw [Bool.or_eq_true, Bool.and_eq_true] at q'
            show kn kvs e = true
            rcases q' with q' | ⟨q1, q2⟩
            · rw [eq_of_beq q']; exact k1
            · have := kc _ q2
              rw [show ((e.toNat : Nat) : Int) = e by have := of_decide_eq_true q1; omega] at this
              exact this
          · exact kd i' (by omega) h'
      · rintro σ H3 ⟨kvs, x3, x4, rfl, e3, s3, n3, k1, ks, kc, kd⟩
        refine hDD _ _ ⟨kvs, _, _, _, rfl, e3, s3, by rw [M.reflen] at n3; omega, k1, ks, fun i h' => ?_⟩
        exact kd i (by rw [M.reflen]; exact reachN_lt h') h'
    · rintro σ H2 ⟨kvs, x2, x3, x4, rfl, e2, s2, n2, k1, ks, kc⟩
      have M2 := M.same s2
      refine ⟨_, rfl, _, _, rfl, .inl M2.sq, _, rfl, by omega, by omega, ?_⟩
      rw [en]
      refine comp_pure (ys := (reachL rows).map V.bl) wk_range (by rw [List.length_map, List.length_range]; exact small12 (by omega)) (by rw [List.length_map, List.length_map, List.length_range, reachL_len]) (fun j x y ex ey Q' q' => ?_) (fun L hL => ?_)
      · have hj : j < rows.length := by
          have := (List.getElem?_eq_some_iff.mp ey).1
          rw [List.length_map, reachL_len] at this
          exact this
        rw [bools_get (reachL_get hj)] at ey
        cases ey
        rw [List.getElem?_map, List.getElem?_range hj] at ex
        cases ex
        refine ⟨_, rfl, _, rfl, kA, _, rfl, DGet.k (k := .inl (0 + (j : Int))) e2, ?_⟩
        have ek : (valV kvs (Sum.inl (0 + (j : Int)) : Key)).isSome = rch rows j := by
          rw [show (0 + (j : Int)) = (j : Int) by omega]
          show kn kvs (j : Int) = _
          rw [Bool.eq_iff_iff]
          constructor
          · intro z
            rcases ks _ z with z | ⟨_, z⟩
            · omega
            · simpa using z
          · exact kc j
        rw [ek]
        exact q'
      · exact q L _ (same_upd s2 (s2.free hL)) (s2.free hL) upd_same
theorem sc_is_open : FnScope ["board"] ["board"] (defScope s_is_open) := ⟨rfl, rfl, rfl, by decide +kernel, rfl, by decide +kernel, by decide +kernel⟩
theorem ok_is_open (T : Txt K mg A) (G_reached : FnOk P w K mg base CX0 1 A.f_reached A.fd_reached ["rows"] (spReached K)) : FnOk P w K mg base CX0 2 A.f_is_open A.fd_is_open ["board"] (spOpen A.C) := by
  refine T.F_is_open.ok sc_is_open (fun vs H Q E h => ?_) (fun cdv A' outer s H vs Q E hr h => ?_)
  · obtain ⟨p, dx, aR, as, aT, aL, aS, b, rfl, _⟩ := h
    rfl
  · obtain ⟨p, dx, aR, as, aT, aL, aS, b, rfl, B, w12, wi, wl, q⟩ := h
    refine ⟨_, (pss_one (ps_ret (pe_callB (call_allK (K := K) rfl rfl) (by rfl) T.n_all PyProof.Rows.Boot.«all» (pa_cons (pe_call G_reached (hr.mono (by decide)) (by rfl) T.m_reached T.k_reached T.b_reached .nil pass0 (pa_cons (pe_fldK (K := K) rfl (pv 0) rfl) pa_nil)) pa_nil)))), ?_⟩
    exact ⟨_, rfl, p, A.C, dx, _, _, rfl, B.ob, T.cl_Board, T.na_rows, bf_rows _ _ _ _ _, aR, as, b.rows, rfl, B.mat, w12, wi, wl, fun l H' s' hl el => ⟨l, _, rfl, SqL.of el, q H' s'⟩⟩
theorem sc_check_open : FnScope ["board"] ["board"] (defScope s_check_open) := ⟨rfl, rfl, rfl, by decide +kernel, rfl, by decide +kernel, by decide +kernel⟩
theorem ok_check_open (T : Txt K mg A) (G_is_open : FnOk P w K mg base CX0 2 A.f_is_open A.fd_is_open ["board"] (spOpen A.C)) : FnOk P w K mg base (CX1 P w) 3 A.f_check_open A.fd_check_open ["board"] (spChkO A.C A.c_NotOpen) := by
  refine T.F_check_open.okX sc_check_open (fun vs H Q E h => ?_) (fun cdv A' outer s H vs Q E hr h => ?_)
  · obtain ⟨p, dx, aR, as, aT, aL, aS, b, rfl, _⟩ := h
    rfl
  · obtain ⟨p, dx, aR, as, aT, aL, aS, b, rfl, B, W, q1, q2⟩ := h
    refine ⟨_, (pss_one (ps_if (pt_not (pt_val (pe_call G_is_open (hr.mono (by decide)) (by rfl) T.m_is_open T.k_is_open T.b_is_open .nil pass0 (pa_cons (pv 0) pa_nil))))
        (pss_one (ps_raise raises_cx rfl (by rfl) T.m_NotOpen T.x_NotOpen (pa_cons pe_str pa_nil)))
        pss_nil)), ?_⟩
    refine ⟨_, rfl, p, dx, aR, as, aT, aL, aS, b, rfl, B, W.2.1, W.ins, fun r hr => by have := (W.2.2 r hr).2.1; omega, fun H' s' => ⟨_, rfl, ?_⟩⟩
    cases e : (reachL b.rows).all id with
    | true => exact iteF (q1 e H' s')
    | false =>
      refine iteT ?_
      exact ⟨small12 (by show 1 ≤ 100; decide), q2 e H' s'⟩
theorem sc_is_tree : FnScope ["board"] ["board"] (defScope s_is_tree) := ⟨rfl, rfl, rfl, by decide +kernel, rfl, by decide +kernel, by decide +kernel⟩
theorem ok_is_tree (T : Txt K mg A) (G_reached : FnOk P w K mg base CX0 1 A.f_reached A.fd_reached ["rows"] (spReached K)) (G_last_exit : FnOk P w K mg base (CX1 P w) 2 A.f_last_exit A.fd_last_exit ["board", "at"] (spLast A.C A.c_NoSite)) : FnOk P w K mg base CX0 3 A.f_is_tree A.fd_is_tree ["board"] (spTree A.C) := by
  refine T.F_is_tree.ok sc_is_tree (fun vs H Q E h => ?_) (fun cdv A' outer s H vs Q E hr h => ?_)
  · obtain ⟨p, dx, aR, as, aT, aL, aS, b, rfl, _⟩ := h
    rfl
  · obtain ⟨p, dx, aR, as, aT, aL, aS, b, rfl, B, hT, W, q⟩ := h
    refine ⟨_, (pss_one (ps_ret (pe_callB (call_allK (K := K) rfl rfl) (by rfl) T.n_all PyProof.Rows.Boot.«all» (pa_cons (pe_call G_reached (hr.mono (by decide)) (by rfl) T.m_reached T.k_reached T.b_reached .nil pass0 (pa_cons (pe_comp (CompSc.of (N' := ["at", "board"]) (ix := [none, some 0]) rfl (by kernel_rfl)) rfl rfl rfl rfl (pi_range1 (by rfl) T.n_range (pa_cons (pe_callB (call_lenK (K := K) rfl) (by rfl) T.n_len PySem.boot_len (pa_cons (pe_fldK (K := K) rfl (pv 0) rfl) pa_nil)) pa_nil)) (by exact fun _ _ _ _ _ => pf_nil) (by exact fun _ _ _ _ _ => (pe_lst (pa_cons (pe_call G_last_exit (hr.mono (by decide)) (by rfl) T.m_last_exit T.k_last_exit T.b_last_exit .nil passE0 (pa_cons (pv 1) (pa_cons (pv 0) pa_nil))) pa_nil))) (fun _ => rfl)) pa_nil)) pa_nil)))), ?_⟩
    obtain ⟨w1, w12, wr⟩ := id W
    have hl := B.mat.reflen
    have en : (((as.map V.ref).length : Nat) : Int).toNat = b.rows.length := by rw [hl]; simp
    refine ⟨_, rfl, p, A.C, dx, _, _, rfl, B.ob, T.cl_Board, T.na_rows, bf_rows _ _ _ _ _, _, _, rfl, .inl B.mat.sq, _, rfl, by omega, by omega, ?_⟩
    rw [en]
    refine comp_news (ls := (lastRows b.rows b.turns).map fun r => r.map V.int) wk_range (by rw [List.length_map, List.length_range]; exact small12 (by omega)) (by rw [List.length_map, lastRows_len, List.length_map, List.length_range]) (fun i x l H3 ex el s3 Q' q' => ?_) (fun as2 H2' sz hlen nd fr hrows D hD => ?_)
    · have hi : i < b.rows.length := by
        have := (List.getElem?_eq_some_iff.mp el).1
        rw [List.length_map, lastRows_len] at this
        exact this
      rw [List.getElem?_map, List.getElem?_range hi] at ex
      cases ex
      unfold lastRows at el
      rw [List.getElem?_map, List.getElem?_map, List.getElem?_range hi] at el
      cases el
      have e0 : (0 + (i : Int)).toNat = i := by omega
      obtain ⟨t0, t1⟩ := hT.2 i hi
      refine ⟨_, rfl, _, rfl, p, dx, aR, as, aT, aL, aS, b, _, rfl, B.same s3, hT.1, by omega, by omega, fun _ => ?_, fun z => absurd ⟨by omega, by omega⟩ z⟩
      rw [e0]
      exact ⟨t0, t1, small12 (by show 1 ≤ 100; decide), q'⟩
    rw [List.length_map] at hlen
    have MD := mat_of (H := H) (R := D) hlen nd sz hrows hD
    have sD : Same H (upd H2' D (.lst (as2.map V.ref))) := same_upd sz (sz.free hD)
    refine ⟨D, as2, _, rfl, MD, by rw [lastRows_len]; exact w12, lastRows_ins W hT, fun r hr' => ?_, fun l H' s' hl el => ⟨l, _, rfl, SqL.of el, q H' (sD.trans s')⟩⟩
    obtain ⟨i, _, rfl⟩ := List.mem_map.mp hr'
    show 1 ≤ 100
    decide
theorem sc_Bstand_like : FnScope ["self", "other"] ["self", "other"] (defScope s_Bstand_like) := ⟨rfl, rfl, rfl, by decide +kernel, rfl, by decide +kernel, by decide +kernel⟩
theorem ok_Bstand_like (T : Txt K mg A) : FnOk P w K mg base CX0 1 A.f_Bstand_like A.fd_Bstand_like ["self", "other"] (spLike A.C) := by
  refine T.F_Bstand_like.ok sc_Bstand_like (fun vs H Q E h => ?_) (fun cdv A' outer s H vs Q E hr h => ?_)
  · obtain ⟨p, dx, aR, as, aT, aL, aS, b, p2, dx2, aR2, as2, aT2, aL2, aS2, b2, rfl, _⟩ := h
    rfl
  · obtain ⟨p, dx, aR, as, aT, aL, aS, b, p2, dx2, aR2, as2, aT2, aL2, aS2, b2, rfl, B, B2, hpp, q⟩ := h
    refine ⟨_, (pss_cons (ps_fldK (K := K) rfl (pv 0) (pe_callTy (call_listK (K := K) rfl) (by rfl) T.n_list PyProof.Rows.Boot.«list» (pa_cons (pe_fldK (K := K) rfl (pv 1) rfl) pa_nil)) rfl)
      (pss_cons (ps_fldK (K := K) rfl (pv 0) (pe_callTy (call_listK (K := K) rfl) (by rfl) T.n_list PyProof.Rows.Boot.«list» (pa_cons (pe_fldK (K := K) rfl (pv 1) rfl) pa_nil)) rfl)
      (pss_cons (ps_fldK (K := K) rfl (pv 0) (pe_callTy (call_listK (K := K) rfl) (by rfl) T.n_list PyProof.Rows.Boot.«list» (pa_cons (pe_fldK (K := K) rfl (pv 1) rfl) pa_nil)) rfl)
      (pss_one (ps_fldK (K := K) rfl (pv 0) (pe_fldK (K := K) rfl (pv 1) rfl) rfl))))), ?_⟩
    have np := ins_not B.ob B2 hpp
    refine ⟨_, rfl, p2, A.C, dx2, _, _, rfl, B2.ob, T.cl_Board, T.na_turns, bf_turns _ _ _ _ _, _, _, rfl, .inl (SqL.of B2.hT), fun n1 hn1 => ⟨_, rfl, p, A.C, dx, _, rfl, (same_new hn1) _ _ B.ob, T.cl_Board, T.na_turns, (by show 5 < 1000; decide), ?_⟩⟩
    rw [putF_turns]
    have B3 := B.newT hn1 b2.turns
    have k3 := (But.refl p H).new (o := .lst (b2.turns.map V.int)) (o' := .ins A.C dx (bflds aR n1 aL aS b.taken)) hn1
    have C3 := k3.board B2 np
    generalize upd (upd H n1 (.lst (b2.turns.map V.int))) p (.ins A.C dx (bflds aR n1 aL aS b.taken)) = H3 at B3 k3 C3
    refine ⟨_, rfl, p2, A.C, dx2, _, _, rfl, C3.ob, T.cl_Board, T.na_loads, bf_loads _ _ _ _ _, _, _, rfl, .inl (SqL.of C3.hL), fun n2 hn2 => ⟨_, rfl, p, A.C, dx, _, rfl, (same_new hn2) _ _ B3.ob, T.cl_Board, T.na_loads, (by show 5 < 1000; decide), ?_⟩⟩
    rw [putF_loads]
    have n2p : n2 ≠ p := fun z => by rw [z, B3.ob] at hn2; cases hn2
    have n2H := k3.free hn2 n2p
    have B4 := B3.newL hn2 b2.loads
    have k4 := k3.new (o := .lst (b2.loads.map V.int)) (o' := .ins A.C dx (bflds aR n1 n2 aS b.taken)) hn2
    have C4 := k4.board B2 np
    dsimp only at B4 ⊢
    generalize upd (upd H3 n2 (.lst (b2.loads.map V.int))) p (.ins A.C dx (bflds aR n1 n2 aS b.taken)) = H4 at B4 k4 C4
    refine ⟨_, rfl, p2, A.C, dx2, _, _, rfl, C4.ob, T.cl_Board, T.na_steps, bf_steps _ _ _ _ _, _, _, rfl, .inl (SqL.of C4.hS), fun n3 hn3 => ⟨_, rfl, p, A.C, dx, _, rfl, (same_new hn3) _ _ B4.ob, T.cl_Board, T.na_steps, (by show 5 < 1000; decide), ?_⟩⟩
    rw [putF_steps]
    have n3p : n3 ≠ p := fun z => by rw [z, B4.ob] at hn3; cases hn3
    have n3H := k4.free hn3 n3p
    have B5 := B4.newS hn3 b2.steps
    have k5 := k4.new (o := .lst (b2.steps.map V.int)) (o' := .ins A.C dx (bflds aR n1 n2 n3 b.taken)) hn3
    have C5 := k5.board B2 np
    dsimp only at B5 ⊢
    generalize upd (upd H4 n3 (.lst (b2.steps.map V.int))) p (.ins A.C dx (bflds aR n1 n2 n3 b.taken)) = H5 at B5 k5 C5
    refine ⟨_, rfl, p2, A.C, dx2, _, _, rfl, C5.ob, T.cl_Board, T.na_taken, bf_taken _ _ _ _ _, _, rfl, p, A.C, dx, _, rfl, B5.ob, T.cl_Board, T.na_taken, (by show 5 < 1000; decide), ?_⟩
    rw [putF_taken]
    refine q n1 n2 n3 _ (B5.setP b2.taken) (fun x o hx e => ?_) hn1 n2H n3H
    rw [upd_ne hx]
    exact k5 x o hx e
theorem sc_Btwin : FnScope ["self", "other"] ["self"] (defScope s_Btwin) := ⟨rfl, rfl, rfl, by decide +kernel, rfl, by decide +kernel, by decide +kernel⟩
theorem ok_Btwin (T : Txt K mg A) (G_i_Board : FnOk P w K mg base CX0 3 A.f_Binit A.fd_Binit ["self", "rows"] (spInit A.C)) (G_stand_like : FnOk P w K mg base CX0 1 A.f_Bstand_like A.fd_Bstand_like ["self", "other"] (spLike A.C)) : FnOk P w K mg base CX0 5 A.f_Btwin A.fd_Btwin ["self"] (spTwin A.C) := by
  refine T.F_Btwin.ok sc_Btwin (fun vs H Q E h => ?_) (fun cdv A' outer s H vs Q E hr h => ?_)
  · obtain ⟨p, dx, aR, as, aT, aL, aS, b, rfl, _⟩ := h
    rfl
  · obtain ⟨p, dx, aR, as, aT, aL, aS, b, rfl, B, W, q⟩ := h
    refine ⟨_, (pss_cons (ps_set (i := 1) sc_Btwin.nd rfl (Or.inl rfl) (pe_make T.mk_Board G_i_Board (hr.mono (by decide)) (by rfl) T.m_Board T.bi_Board .nil pass0 (pa_cons (pe_fldK (K := K) rfl (pv 0) rfl) pa_nil)))
      (pss_cons (ps_expr (pe_meth (pv 1) T.cl_Board T.mt_stand_like G_stand_like (hr.mono (by decide)) T.bm_stand_like .nil pass0 (pa_cons (pv 0) pa_nil)))
      (pss_one (ps_ret (pv 1))))), ?_⟩
    refine ⟨_, rfl, p, A.C, dx, _, _, rfl, B.ob, T.cl_Board, T.na_rows, bf_rows _ _ _ _ _, ?_⟩
    intro p' dx' hp hdx hne
    refine ⟨p', dx', aR, as, b.rows, rfl, upd_same, B.mat.same (same_upd (same_new hdx) hp), W, fun aR' as' aT' aL' aS' H4 B4 kp frB => ⟨rfl, ?_⟩⟩
    have s4 : Same H H4 := made_same hp hdx kp
    have fr4 : ∀ c ∈ p' :: aT' :: aL' :: aS' :: aR' :: as', H c = none := fun c hc => by
      rcases List.mem_cons.mp hc with z | z
      · rw [z]; exact hp
      · exact made_none (frB c z)
    have hpp : p' ≠ p := fun z => by rw [z, B.ob] at hp; cases hp
    refine ⟨_, rfl, p', dx', _, rfl, B4.ob, (by rfl), _, rfl, p', dx', aR', as', aT', aL', aS', _, p, dx, aR, as, aT, aL, aS, b, rfl, B4, B.same s4, hpp, fun n1 n2 n3 H5 B5 k5 e1 e2 e3 => ?_⟩
    refine ⟨_, rfl, q p' dx' aR' as' n1 n2 n3 H5 B5 (k5.same s4 hp) fun c hc => ?_⟩
    simp only [List.mem_cons] at hc
    rcases hc with rfl | rfl | rfl | rfl | hc
    · exact hp
    · exact s4.free e1
    · exact s4.free e2
    · exact s4.free e3
    · exact fr4 c (by simp only [List.mem_cons]; exact .inr (.inr (.inr (.inr hc))))
theorem sc_loaded : FnScope ["board"] ["board"] (defScope s_loaded) := ⟨rfl, rfl, rfl, by decide +kernel, rfl, by decide +kernel, by decide +kernel⟩
theorem ok_loaded (T : Txt K mg A) : FnOk P w K mg base CX0 1 A.f_loaded A.fd_loaded ["board"] (spLaden A.C) := by
  refine T.F_loaded.ok sc_loaded (fun vs H Q E h => ?_) (fun cdv A' outer s H vs Q E hr h => ?_)
  · obtain ⟨p, dx, aR, as, aT, aL, aS, b, rfl, _⟩ := h
    rfl
  · obtain ⟨p, dx, aR, as, aT, aL, aS, b, rfl, B, h100, q⟩ := h
    refine ⟨_, (pss_one (ps_ret (pe_compT (CompSc.of (N' := ["at", "many"]) (ix := [none, none]) rfl (by kernel_rfl)) (by exact fun _ _ _ _ _ nd => pg_tupK (K := K) (n := 2) rfl rfl (pgs_cons (pg_name (i := 0) nd rfl (Or.inl (lookup_relabel_local rfl)) (.inr (lookup_relabel_local rfl))) (pgs_cons (pg_name (i := 1) nd rfl (Or.inl (lookup_relabel_local rfl)) (.inr (lookup_relabel_local rfl))) pgs_nil))) rfl (pi_enum (K := K) rfl (by rfl) T.n_enumerate (pa_cons (pe_fldK (K := K) rfl (pv 0) rfl) pa_nil)) (by exact fun _ _ _ _ _ => (pf_one (pt_cmpR op_gt (pv 1) pe_int (nomark _)))) (by exact fun _ _ _ _ _ => (pv 0)) (fun _ => rfl)))), ?_⟩
    refine ⟨_, rfl, p, A.C, dx, _, _, rfl, B.ob, T.cl_Board, T.na_loads, bf_loads _ _ _ _ _, aL, _, rfl, SqL.of B.hL, ?_⟩
    refine comp_enumT (fun i ys H3 => Same H H3 ∧ ys = ((List.range i).filter fun k => decide (0 < b.loads.getD k 0)).map fun k => V.int (k : Nat)) ⟨Same.refl _, rfl⟩ (fun i ys H3 _ ⟨s3, _⟩ => SqL.of (s3 _ _ B.hL)) (fun i x ys H3 c hx hP hc => ?_) (fun i ys H3 hi hP => ?_) (fun ys H3 hP D hD => ?_)
    · obtain ⟨s3, rfl⟩ := hP
      have hi : i < b.loads.length := by have := (List.getElem?_eq_some_iff.mp hx).1; simpa using this
      have ex : x = V.int (b.loads.getD i 0) := by
        rw [List.getElem?_map, List.getElem?_eq_getElem hi] at hx
        rw [getD_get hi]
        exact (Option.some.inj hx).symm
      subst ex
      refine ⟨c, _, rfl, SqT.of upd_same, rfl, _, _, rfl, _, _, rfl, rfl, ⟨rfl, fun k z hz => ?_⟩, _, rfl, _, _, rfl, rfl, _, rfl, ?_⟩
      · match k, hz with
        | 0, hz => cases hz
        | 1, hz => cases hz
        | n + 2, hz => simp [inSt] at hz
      have s4 := s3.trans (same_new hc (o := .tup [.int (i : Int), .int (b.loads.getD i 0)]))
      refine ite2 (fun h1 => ?_) (fun h1 => ?_)
      · have h1' := of_decide_eq_true h1
        refine ⟨_, rfl, s4, ?_⟩
        rw [laden_range, if_pos h1']
      · have h1' : ¬ 0 < b.loads.getD i 0 := fun z => h1 (decide_eq_true z)
        refine ⟨s4, ?_⟩
        rw [laden_range, if_neg h1', List.append_nil]
    · obtain ⟨s3, rfl⟩ := hP
      rw [List.length_map] at hi ⊢
      have := List.length_filter_le (fun k => decide (0 < b.loads.getD k 0)) (List.range i)
      rw [List.length_range] at this
      exact small1000 (by omega)
    · obtain ⟨s3, rfl⟩ := hP
      refine q D _ (same_upd s3 (s3.free hD)) (s3.free hD) ?_
      rw [upd_same, List.length_map]
      rfl
theorem sc_run : FnScope ["board", "most", "trial", "done", "waiting"] ["board", "most"] (defScope s_run) := ⟨rfl, rfl, rfl, by decide +kernel, rfl, by decide +kernel, by decide +kernel⟩
theorem ok_run (T : Txt K mg A) (G_check_open : FnOk P w K mg base (CX1 P w) 3 A.f_check_open A.fd_check_open ["board"] (spChkO A.C A.c_NotOpen)) (G_twin : FnOk P w K mg base CX0 5 A.f_Btwin A.fd_Btwin ["self"] (spTwin A.C)) (G_loaded : FnOk P w K mg base CX0 1 A.f_loaded A.fd_loaded ["board"] (spLaden A.C)) (G_stand_like : FnOk P w K mg base CX0 1 A.f_Bstand_like A.fd_Bstand_like ["self", "other"] (spLike A.C)) (G_step : FnOk P w K mg base (CX1 P w) 2 A.f_step A.fd_step ["board", "at"] (spStep A.C A.c_NoSite A.c_NoMarble)) : FnOk P w K mg base (CX1 P w) 6 A.f_run A.fd_run ["board", "most"] (spRun A.C A.c_NotOpen A.c_TooLong) := by
  refine T.F_run.okX sc_run (fun vs H Q E h => ?_) (fun cdv A' outer s H vs Q E hr h => ?_)
  · obtain ⟨p, dx, aR, as, aT, aL, aS, b, most, rfl, _⟩ := h
    rfl
  · obtain ⟨p, dx, aR, as, aT, aL, aS, b, most, rfl, B, O, m1, m2, q1, q2⟩ := h
    refine ⟨_, (pss_cons (ps_expr (pe_call G_check_open (hr.mono (by decide)) (by rfl) T.m_check_open T.k_check_open T.b_check_open .nil passX (pa_cons (pv 0) pa_nil)))
      (pss_cons (ps_set (i := 2) sc_run.nd rfl (Or.inl rfl) (pe_meth0 (pv 0) T.cl_Board T.mt_twin G_twin (hr.mono (by decide)) T.bm_twin .nil pass0))
      (pss_cons (ps_set (i := 3) sc_run.nd rfl (Or.inl rfl) pe_int)
      (pss_cons (ps_while PassesOwn.leaving (pt_cmpR op_le (pv 3) (pv 1) (nomark _))
        (pss_cons (ps_set (i := 4) sc_run.nd rfl (Or.inl rfl) (pe_call G_loaded (hr.mono (by decide)) (by rfl) T.m_loaded T.k_loaded T.b_loaded .nil pass0 (pa_cons (pv 2) pa_nil)))
        (pss_cons (ps_if (pt_not (pt_lst (K := K) rfl (pv 4)))
          (pss_cons (ps_expr (pe_meth (pv 0) T.cl_Board T.mt_stand_like G_stand_like (hr.mono (by decide)) T.bm_stand_like .nil pass0 (pa_cons (pv 2) pa_nil)))
          (pss_one (ps_ret (pv 3))))
          pss_nil)
        (pss_cons (ps_expr (pe_call G_step (hr.mono (by decide)) (by rfl) T.m_step T.k_step T.b_step .nil passX (pa_cons (pv 2) (pa_cons (pe_ix (ix_listK (K := K) rfl) (pv 4) pe_int (fun _ _ => rfl)) pa_nil))))
        (pss_one (ps_aug (i := 3) sc_run.nd rfl (Or.inl rfl) pe_int ip_add))))))
      (pss_one (ps_raise raises_cx rfl (by rfl) T.m_TooLong T.x_TooLong (pa_cons (pe_fs (pj_str (by decide +kernel) (pj_int (pv 1) (pj_str (by decide +kernel) pj_nil))) (by decide)) pa_nil))))))), ?_⟩
    have lg := log2_small m1 m2
    refine ⟨_, rfl, p, dx, aR, as, aT, aL, aS, b, rfl, B, O.W, fun hop H1 s1 => ?_, fun hop H1 s1 => q1 hop H1 s1⟩
    obtain ⟨N, RT, qa, qb⟩ := q2 hop
    have B1 := B.same s1
    refine ⟨_, rfl, p, dx, _, rfl, B1.ob, (by rfl), p, dx, aR, as, aT, aL, aS, b, rfl, B1, O.W, fun p' dx' aR' as' aT' aL' aS' H2 B2 s2 fr2 => ?_⟩
    have s02 := s1.trans s2
    have fr0 : ∀ c ∈ p' :: aT' :: aL' :: aS' :: aR' :: as', H c = none := fun c hc => s1.free (fr2 c hc)
    dsimp only [gName]
    refine asg_lit ?_
    have hpp : p ≠ p' := fun z => by have := fr0 p' (by simp); rw [← z, B.ob] at this; cases this
    refine ⟨fun m σ H3 => ∃ (k : Nat) (x4 : Option V), k ≤ N ∧ (k = 0 ∨ (k : Int) ≤ most + 1) ∧ m = N - k ∧ σ = [some (.ref p), some (.int most), some (.ref p'), some (.int (k : Int)), x4] ∧ BoardAt A.C H3 p' dx' aR' as' aT' aL' aS' (iterR k b) ∧ Same H H3, ⟨_, 0, none, Nat.zero_le _, .inl rfl, rfl, rfl, B2, s02⟩, ?_⟩
    rintro m σ H3 ⟨k, x4, hk, hkm, rfl, rfl, B3, s3⟩
    obtain ⟨O3, r3, _⟩ := O.iter k
    refine ⟨_, rfl, _, rfl, _, _, rfl, rfl, _, rfl, ?_⟩
    refine ite2 (fun h1 => ?_) (fun h1 => ?_)
    · have h1' : (k : Int) ≤ most := of_decide_eq_true h1
      refine ⟨fun σ' H' => ∃ m', m' < N - k ∧ ∃ (k : Nat) (x4 : Option V), k ≤ N ∧ (k = 0 ∨ (k : Int) ≤ most + 1) ∧ m' = N - k ∧ σ' = [some (.ref p), some (.int most), some (.ref p'), some (.int (k : Int)), x4] ∧ BoardAt A.C H' p' dx' aR' as' aT' aL' aS' (iterR k b) ∧ Same H H', fun _ _ h => h, ?_⟩
      refine ⟨_, rfl, p', dx', aR', as', aT', aL', aS', _, rfl, B3, by rw [O3.L, r3]; have := O.W.2.1; omega, fun l H4 s4 hl el => ?_⟩
      have B4 := B3.same s4
      have s04 := s3.trans s4
      cases hw : ladenL (iterR k b).loads with
      | nil =>
        rw [hw] at el
        have hkN : k = N := by
          by_cases e : k = N
          · exact e
          · exact absurd hw (RT.more k (by omega))
        subst hkN
        refine ⟨_, rfl, l, _, rfl, SqL.of el, ?_⟩
        refine iteT ?_
        have Bp4 := B.same s04
        refine ⟨_, rfl, p, dx, _, rfl, Bp4.ob, (by rfl), _, rfl, p, dx, aR, as, aT, aL, aS, b, p', dx', aR', as', aT', aL', aS', _, rfl, Bp4, B4, hpp, fun n1 n2 n3 H5 B5 k5 e1 e2 e3 => ?_⟩
        have eB : (⟨b.rows, (iterR k b).turns, (iterR k b).loads, (iterR k b).steps, (iterR k b).taken⟩ : Brd) = iterR k b := by rw [← r3]
        rw [eB] at B5
        exact ⟨_, rfl, qa h1' n1 n2 n3 H5 B5 (fun x o hx e => k5 x o hx (s04 x o e)) (s04.free e1) (s04.free e2) (s04.free e3)⟩
      | cons s r =>
        rw [hw] at el
        have hm : s ∈ ladenL (iterR k b).loads := by rw [hw]; exact List.mem_cons_self
        obtain ⟨g1, g2⟩ := laden_mem hm
        have hkN : k < N := by
          by_cases e : k = N
          · subst e; rw [RT.done] at hw; cases hw
          · omega
        refine ⟨_, rfl, l, _, rfl, SqL.of el, ?_⟩
        refine iteF ?_
        have hs : s < (iterR k b).rows.length := by rw [← O3.L]; exact g1
        refine ⟨_, rfl, _, rfl, _, _, _, _, rfl, rfl, SqL.of el, at_list (n := 0) rfl rfl, p', dx', aR', as', aT', aL', aS', _, (s : Int), rfl, B4, O3, by omega, by have := O3.W.2.1; omega, fun z => absurd ⟨by omega, by omega⟩ z, fun _ z => absurd z (by rw [Int.toNat_natCast]; omega), fun _ _ H5 B5 f5 => ?_⟩
        have e5 : stepB (iterR k b) (s : Int).toNat = iterR (k + 1) b := by
          show _ = nxt (iterR k b)
          rw [nxt_some (s := s) (by rw [hw]; rfl)]
          rfl
        rw [e5] at B5
        refine ⟨_, rfl, _, _, rfl, rfl, ?_⟩
        exact ⟨_, by omega, k + 1, _, by omega, .inr (by omega), rfl, rfl, B5, same_frame s04 fr0 f5⟩
    · have h1' : ¬ (k : Int) ≤ most := fun z => h1 (decide_eq_true z)
      exact ⟨⟨_, rfl, _, rfl, lg, rfl, trivial⟩, fun x => ⟨small12 (by show 1 ≤ 100; decide), qb (by omega) H3 s3⟩⟩
theorem sc_leads_to : FnScope ["board", "start", "here"] ["board", "start", "here"] (defScope s_leads_to) := ⟨rfl, rfl, rfl, by decide +kernel, rfl, by decide +kernel, by decide +kernel⟩
theorem ok_leads_to (T : Txt K mg A) (G_last_exit : FnOk P w K mg base (CX1 P w) 2 A.f_last_exit A.fd_last_exit ["board", "at"] (spLast A.C A.c_NoSite)) : FnOk P w K mg base CX0 3 A.f_leads_to A.fd_leads_to ["board", "start", "here"] (spLeads A.C) := by
  refine T.F_leads_to.ok sc_leads_to (fun vs H Q E h => ?_) (fun cdv A' outer s H vs Q E hr h => ?_)
  · obtain ⟨p, dx, aR, as, aT, aL, aS, b, st, z, rfl, _⟩ := h
    rfl
  · obtain ⟨p, dx, aR, as, aT, aL, aS, b, st, z, rfl, B, W, hT, z0, z1, q⟩ := h
    refine ⟨_, (pss_cons (ps_if (pt_cmpR op_eq (pv 2) (pe_glob (v := .int (-1)) (by rfl) T.g_PIT ⟨_, rfl⟩) (nomark _))
        (pss_one (ps_ret (pv 1)))
        pss_nil)
      (pss_one (ps_ret (pe_call G_last_exit (hr.mono (by decide)) (by rfl) T.m_last_exit T.k_last_exit T.b_last_exit .nil passE0 (pa_cons (pv 0) (pa_cons (pv 2) pa_nil)))))), ?_⟩
    have w12 := W.2.1
    unfold ring at q
    refine ⟨_, rfl, rfl, _, rfl, ?_⟩
    by_cases h : z = -1
    · subst h
      rw [if_pos rfl] at q
      refine iteT ?_
      exact ⟨_, rfl, q⟩
    · rw [if_neg h] at q
      rw [decide_eq_false (show ¬ V.int z = V.int (-1) from fun w => h (by injection w))]
      refine iteF ?_
      exact ⟨_, rfl, _, rfl, p, dx, aR, as, aT, aL, aS, b, z, rfl, B, hT.1, by omega, by omega, fun hz => ⟨(hT.2 z.toNat (by omega)).1, (hT.2 z.toNat (by omega)).2, q⟩, fun hn => absurd ⟨by omega, z1⟩ hn⟩
theorem sc_place_ahead : FnScope ["board", "start", "goal", "here", "onward"] ["board", "start", "goal"] (defScope s_place_ahead) := ⟨rfl, rfl, rfl, by decide +kernel, rfl, by decide +kernel, by decide +kernel⟩
theorem ok_place_ahead (T : Txt K mg A) (G_leads_to : FnOk P w K mg base CX0 3 A.f_leads_to A.fd_leads_to ["board", "start", "here"] (spLeads A.C)) : FnOk P w K mg base CX0 4 A.f_place_ahead A.fd_place_ahead ["board", "start", "goal"] (spAhead A.C) := by
  refine T.F_place_ahead.ok sc_place_ahead (fun vs H Q E h => ?_) (fun cdv A' outer s H vs Q E hr h => ?_)
  · obtain ⟨p, dx, aR, as, aT, aL, aS, b, st, x, m, rfl, _⟩ := h
    rfl
  · obtain ⟨p, dx, aR, as, aT, aL, aS, b, st, x, m, rfl, B, W, hT, h0, h1, x0, x1, Ah, q⟩ := h
    refine ⟨_, (pss_cons (ps_set (i := 3) sc_place_ahead.nd rfl (Or.inl rfl) (pv 2))
      (pss_cons (ps_set (i := 4) sc_place_ahead.nd rfl (Or.inl rfl) (pe_call G_leads_to (hr.mono (by decide)) (by rfl) T.m_leads_to T.k_leads_to T.b_leads_to .nil pass0 (pa_cons (pv 0) (pa_cons (pv 1) (pa_cons (pv 3) pa_nil)))))
      (pss_cons (ps_while PassesOwn.never (pt_cmpR op_ne (pv 4) (pv 2) (nomark _))
        (pss_cons (ps_set (i := 3) sc_place_ahead.nd rfl (Or.inl rfl) (pv 4))
        (pss_one (ps_set (i := 4) sc_place_ahead.nd rfl (Or.inl rfl) (pe_call G_leads_to (hr.mono (by decide)) (by rfl) T.m_leads_to T.k_leads_to T.b_leads_to .nil pass0 (pa_cons (pv 0) (pa_cons (pv 1) (pa_cons (pv 3) pa_nil))))))))
      (pss_one (ps_ret (pv 3)))))), ?_⟩
    refine ⟨_, rfl, ?_⟩
    refine ⟨_, rfl, _, rfl, _, rfl, p, dx, aR, as, aT, aL, aS, b, st, _, rfl, B, W, hT, x0, x1, ?_⟩
    refine ⟨fun k σ H2 => ∃ j : Nat, j ≤ m ∧ k = m - j ∧ σ = [some (.ref p), some (.int st), some (.int x), some (.int (goR b.rows st b.turns j x)), some (.int (goR b.rows st b.turns (j + 1) x))] ∧ H = H2, ⟨_, 0, Nat.zero_le _, rfl, rfl, rfl⟩, ?_⟩
    rintro k σ H2 ⟨j, hj, rfl, rfl, rfl⟩
    refine ⟨_, rfl, _, rfl, rfl, _, rfl, ?_⟩
    by_cases e : goR b.rows st b.turns (j + 1) x = x
    · rw [decide_eq_true (show V.int (goR b.rows st b.turns (j + 1) x) = V.int x by rw [e])]
      refine iteF ?_
      have : j = m := by
        by_cases h : j = m
        · exact h
        · exact absurd e (Ah.first j (by omega))
      subst this
      exact ⟨_, rfl, q⟩
    · rw [decide_eq_false (show ¬ V.int (goR b.rows st b.turns (j + 1) x) = V.int x from fun w => e (by injection w))]
      refine iteT ?_
      have hjm : j < m := by
        by_cases h : j = m
        · subst h; exact absurd Ah.back e
        · omega
      refine ⟨fun σ' H' => ∃ m', m' < m - j ∧ ∃ j : Nat, j ≤ m ∧ m' = m - j ∧ σ' = [some (.ref p), some (.int st), some (.int x), some (.int (goR b.rows st b.turns j x)), some (.int (goR b.rows st b.turns (j + 1) x))] ∧ H = H', fun _ _ h => h, ?_⟩
      refine ⟨_, rfl, ?_⟩
      have hb := goR_bd W hT h0 h1 (j + 1) x0 x1
      refine ⟨_, rfl, _, rfl, _, rfl, p, dx, aR, as, aT, aL, aS, b, st, _, rfl, B, W, hT, hb.1, hb.2, ?_⟩
      exact ⟨_, by omega, j + 1, by omega, rfl, rfl, rfl⟩
theorem sc_turn_back : FnScope ["board", "start", "most", "here", "done"] ["board", "start", "most"] (defScope s_turn_back) := ⟨rfl, rfl, rfl, by decide +kernel, rfl, by decide +kernel, by decide +kernel⟩
theorem ok_turn_back (T : Txt K mg A) (G_place_ahead : FnOk P w K mg base CX0 4 A.f_place_ahead A.fd_place_ahead ["board", "start", "goal"] (spAhead A.C)) : FnOk P w K mg base (CX1 P w) 5 A.f_turn_back A.fd_turn_back ["board", "start", "most"] (spTurnB A.C A.c_TooLong) := by
  refine T.F_turn_back.okX sc_turn_back (fun vs H Q E h => ?_) (fun cdv A' outer s H vs Q E hr h => ?_)
  · obtain ⟨p, dx, aR, as, aT, aL, aS, b, st, most, rfl, _⟩ := h
    rfl
  · obtain ⟨p, dx, aR, as, aT, aL, aS, b, st, most, rfl, B, O, ht, tm, h0, h1, m1, m2, qa, qb⟩ := h
    refine ⟨_, (pss_cons (ps_set (i := 3) sc_turn_back.nd rfl (Or.inl rfl) (pe_call G_place_ahead (hr.mono (by decide)) (by rfl) T.m_place_ahead T.k_place_ahead T.b_place_ahead .nil pass0 (pa_cons (pv 0) (pa_cons (pv 1) (pa_cons (pe_glob (v := .int (-1)) (by rfl) T.g_PIT ⟨_, rfl⟩) pa_nil)))))
      (pss_cons (ps_set (i := 4) sc_turn_back.nd rfl (Or.inl rfl) pe_int)
      (pss_cons (ps_while PassesOwn.leaving (PW.pt (pw_and (pt_cmpR op_ne (pv 3) (pe_glob (v := .int (-1)) (by rfl) T.g_PIT ⟨_, rfl⟩) (nomark _)) (pw_and1 (pt_cmpR op_le (pv 4) (pv 2) (nomark _)))))
        (pss_cons (ps_asg (pe_op op_mod (pe_op op_sub (pe_ix (ix_listK (K := K) rfl) (pe_fldK (K := K) rfl (pv 0) rfl) (pv 3) (fun _ _ => rfl)) pe_int) (pe_callB (call_lenK (K := K) rfl) (by rfl) T.n_len PySem.boot_len (pa_cons (pe_ix (ix_listK (K := K) rfl) (pe_fldK (K := K) rfl (pv 0) rfl) (pv 3) (fun _ _ => rfl)) pa_nil))) (pg_sub (pe_fldK (K := K) rfl (pv 0) rfl) (pv 3) set_list))
        (pss_cons (ps_aug (i := 4) sc_turn_back.nd rfl (Or.inl rfl) pe_int ip_add)
        (pss_one (ps_set (i := 3) sc_turn_back.nd rfl (Or.inl rfl) (pe_call G_place_ahead (hr.mono (by decide)) (by rfl) T.m_place_ahead T.k_place_ahead T.b_place_ahead .nil pass0 (pa_cons (pv 0) (pa_cons (pv 1) (pa_cons (pv 3) pa_nil)))))))))
      (pss_cons (ps_if (pt_cmpR op_gt (pv 4) (pv 2) (nomark _))
        (pss_one (ps_raise raises_cx rfl (by rfl) T.m_TooLong T.x_TooLong (pa_cons (pe_fs (pj_str (by decide +kernel) (pj_int (pv 2) (pj_str (by decide +kernel) pj_nil))) (by decide)) pa_nil)))
        pss_nil)
      (pss_one (ps_ret (pv 4))))))), ?_⟩
    have lg := log2_small m1 m2
    have w12 := O.W.2.1
    have bk0 : Bk b.rows st b.turns 0 b.turns (-1) := .zero
    obtain ⟨T0, U0, x00, x01⟩ := bk0.ok O.W O.T h0 h1 ht
    have hr0 := ring_in (st := st) O.W O.T h0 h1 x00 x01
    obtain ⟨m, Ah⟩ := ahead_ex U0 hr0.1 hr0.2
    refine ⟨_, rfl, _, rfl, p, dx, aR, as, aT, aL, aS, b, st, -1, m, rfl, B, O.W, O.T, h0, h1, x00, x01, Ah, ?_⟩
    refine asg_lit ?_
    refine ⟨fun c σ H2 => ∃ (k m : Nat) (Tu : List Int) (x : Int), c = 20001 - k ∧ (k = 0 ∨ (k : Int) ≤ most + 1) ∧ Bk b.rows st b.turns k Tu x ∧ Ahead b.rows st Tu x m ∧ σ = [some (.ref p), some (.int st), some (.int most), some (.int (goR b.rows st Tu m x)), some (.int (k : Int))] ∧ BoardAt A.C H2 p dx aR as aT aL aS ⟨b.rows, Tu, b.loads, b.steps, b.taken⟩ ∧ ∀ x, x ∉ p :: aT :: aL :: aS :: aR :: as → H2 x = H x, ⟨_, 0, m, b.turns, -1, rfl, .inl rfl, bk0, Ah, rfl, B, fun _ _ => rfl⟩, ?_⟩
    rintro c σ H2 ⟨k, m, Tu, x, rfl, hkm, Bx, Ax, rfl, B2, f2⟩
    have hk := bk_le O.W O.T h0 h1 ht tm (by decide) Bx
    obtain ⟨T1, U1, x0, x1⟩ := Bx.ok O.W O.T h0 h1 ht
    have gb := goR_bd O.W T1 h0 h1 m x0 x1
    have rest : ∀ D : Ends, ((¬ (goR b.rows st Tu m x ≠ -1 ∧ (k : Int) ≤ most)) → D.nx [some (.ref p), some (.int st), some (.int most), some (.int (goR b.rows st Tu m x)), some (.int (k : Int))] H2) → True := fun _ _ => trivial
    refine ⟨_, rfl, rfl, _, rfl, ?_⟩
    by_cases e : goR b.rows st Tu m x = -1
    · rw [decide_eq_true (show V.int (goR b.rows st Tu m x) = V.int (-1) by rw [e])]
      refine iteF ?_
      refine iteF ?_
      refine ⟨_, rfl, _, rfl, _, _, rfl, rfl, _, rfl, ?_⟩
      refine ite2 (fun h2 => ?_) (fun h2 => ?_)
      · have h2' : (k : Int) > most := of_decide_eq_true h2
        exact ⟨⟨_, rfl, _, rfl, lg, rfl, trivial⟩, fun x' => ⟨small12 (by show 1 ≤ 100; decide), qb k Tu x Bx h2' H2 f2⟩⟩
      · have h2' : ¬ (k : Int) > most := fun z => h2 (decide_eq_true z)
        obtain ⟨ex, et⟩ := bk_end O.W O.T h0 h1 ht Bx Ax e
        subst ex
        exact ⟨_, rfl, qa k m Tu Bx Ax e et T1 (by omega) H2 B2 f2⟩
    · rw [decide_eq_false (show ¬ V.int (goR b.rows st Tu m x) = V.int (-1) from fun w => e (by injection w))]
      refine iteT ?_
      refine ⟨_, rfl, _, rfl, _, _, rfl, rfl, _, rfl, ?_⟩
      refine ite2 (fun h2 => ?_) (fun h2 => ?_)
      · have h2' : (k : Int) ≤ most := of_decide_eq_true h2
        obtain ⟨s, hs⟩ : ∃ s : Nat, goR b.rows st Tu m x = (s : Int) := ⟨(goR b.rows st Tu m x).toNat, by omega⟩
        have hsn : s < b.rows.length := by omega
        have Bn := Bk.step Bx Ax hs hsn
        have hk1 := bk_le O.W O.T h0 h1 ht tm (by decide) Bn
        obtain ⟨Tn, Un, y0, y1⟩ := Bn.ok O.W O.T h0 h1 ht
        have hrn := ring_in (st := st) O.W Tn h0 h1 y0 y1
        obtain ⟨mn, An⟩ := ahead_ex Un hrn.1 hrn.2
        rw [hs]
        refine ⟨fun σ' H' => ∃ c', c' < 20001 - k ∧ ∃ (k m : Nat) (Tu : List Int) (x : Int), c' = 20001 - k ∧ (k = 0 ∨ (k : Int) ≤ most + 1) ∧ Bk b.rows st b.turns k Tu x ∧ Ahead b.rows st Tu x m ∧ σ' = [some (.ref p), some (.int st), some (.int most), some (.int (goR b.rows st Tu m x)), some (.int (k : Int))] ∧ BoardAt A.C H' p dx aR as aT aL aS ⟨b.rows, Tu, b.loads, b.steps, b.taken⟩ ∧ ∀ x, x ∉ p :: aT :: aL :: aS :: aR :: as → H' x = H x, fun _ _ h => h, ?_⟩
        have zt : (s : Int) < (Tu.length : Int) := by rw [T1.1]; omega
        have hr8 := row_len O.W hsn
        obtain ⟨c, hat, hc, hca⟩ := B2.mat.at (z := (s : Int)) (by omega) (by show (s : Int) < (b.rows.length : Int); omega)
        rw [Int.toNat_natCast] at hc
        have hlr : ((b.rows.getD s []).map V.int).length = (b.rows.getD s []).length := by simp
        refine ⟨_, rfl, p, A.C, dx, _, _, rfl, B2.ob, T.cl_Board, T.na_turns, bf_turns _ _ _ _ _, _, rfl, _, _, _, _, rfl, rfl, SqL.of B2.hT, at_ints (i := (s : Int)) (by omega) zt, _, _, rfl, rfl, _, rfl, p, A.C, dx, _, _, rfl, B2.ob, T.cl_Board, T.na_rows, bf_rows _ _ _ _ _, _, rfl, _, _, _, _, rfl, rfl, B2.mat.sq, hat, _, _, rfl, .inl (SqL.of hc), _, _, rfl, rfl, by rw [hlr]; omega, _, rfl, p, A.C, dx, _, _, rfl, B2.ob, T.cl_Board, T.na_turns, bf_turns _ _ _ _ _, _, rfl, aT, _, _, _, rfl, rfl, B2.hT, ixN_in (by omega) (by rw [List.length_map]; exact zt), ?_⟩
        rw [hlr, map_set_int, Int.toNat_natCast]
        have B3 : BoardAt A.C _ p dx aR as aT aL aS ⟨b.rows, prevT b.rows Tu s, b.loads, b.steps, b.taken⟩ := B2.setT (prevT b.rows Tu s)
        have f3 : ∀ x, x ∉ p :: aT :: aL :: aS :: aR :: as → (upd H2 aT (.lst ((prevT b.rows Tu s).map V.int))) x = H x := fun x hx => by rw [upd_ne (fun y => hx (by rw [y]; simp))]; exact f2 x hx
        unfold prevT at B3 f3
        generalize upd H2 aT (.lst ((Tu.set s ((Tu.getD s 0 - 1) % ((b.rows.getD s []).length : Int))).map V.int)) = H3 at B3 f3
        refine ⟨_, rfl, _, _, rfl, rfl, ?_⟩
        refine ⟨_, rfl, _, rfl, _, rfl, p, dx, aR, as, aT, aL, aS, _, st, (s : Int), mn, rfl, B3, O.W, Tn, h0, h1, y0, y1, An, ?_⟩
        exact ⟨_, by omega, k + 1, mn, _, (s : Int), rfl, .inr (by omega), Bn, An, rfl, B3, f3⟩
      · have h2' : ¬ (k : Int) ≤ most := fun z => h2 (decide_eq_true z)
        refine ⟨_, rfl, _, rfl, _, _, rfl, rfl, _, rfl, ?_⟩
        rw [decide_eq_true (show (k : Int) > most by omega)]
        refine iteT ?_
        exact ⟨⟨_, rfl, _, rfl, lg, rfl, trivial⟩, fun x' => ⟨small12 (by show 1 ≤ 100; decide), qb k Tu x Bx (by omega) H2 f2⟩⟩
theorem sc_check_back : FnScope ["board", "at"] ["board", "at"] (defScope s_check_back) := ⟨rfl, rfl, rfl, by decide +kernel, rfl, by decide +kernel, by decide +kernel⟩
theorem ok_check_back (T : Txt K mg A) (G_check_site : FnOk P w K mg base (CX1 P w) 1 A.f_check_site A.fd_check_site ["board", "at"] (spSite A.C A.c_NoSite)) (G_check_open : FnOk P w K mg base (CX1 P w) 3 A.f_check_open A.fd_check_open ["board"] (spChkO A.C A.c_NotOpen)) (G_loaded : FnOk P w K mg base CX0 1 A.f_loaded A.fd_loaded ["board"] (spLaden A.C)) (G_is_tree : FnOk P w K mg base CX0 3 A.f_is_tree A.fd_is_tree ["board"] (spTree A.C)) : FnOk P w K mg base (CX1 P w) 5 A.f_check_back A.fd_check_back ["board", "at"] (spChkB A.C A.c_NoSite A.c_NotOpen A.c_NotBare A.c_NotTree) := by
  refine T.F_check_back.okX sc_check_back (fun vs H Q E h => ?_) (fun cdv A' outer s H vs Q E hr h => ?_)
  · obtain ⟨p, dx, aR, as, aT, aL, aS, b, z, rfl, _⟩ := h
    rfl
  · obtain ⟨p, dx, aR, as, aT, aL, aS, b, z, rfl, B, O, z1, z2, q1, q2, q3, q4, q5⟩ := h
    refine ⟨_, (pss_cons (ps_expr (pe_call G_check_site (hr.mono (by decide)) (by rfl) T.m_check_site T.k_check_site T.b_check_site .nil passX (pa_cons (pv 0) (pa_cons (pv 1) pa_nil))))
      (pss_cons (ps_expr (pe_call G_check_open (hr.mono (by decide)) (by rfl) T.m_check_open T.k_check_open T.b_check_open .nil passX (pa_cons (pv 0) pa_nil)))
      (pss_cons (ps_if (pt_lst (K := K) rfl (pe_call G_loaded (hr.mono (by decide)) (by rfl) T.m_loaded T.k_loaded T.b_loaded .nil pass0 (pa_cons (pv 0) pa_nil)))
        (pss_one (ps_raise raises_cx rfl (by rfl) T.m_NotBare T.x_NotBare (pa_cons pe_str pa_nil)))
        pss_nil)
      (pss_one (ps_if (pt_not (pt_val (pe_call G_is_tree (hr.mono (by decide)) (by rfl) T.m_is_tree T.k_is_tree T.b_is_tree .nil pass0 (pa_cons (pv 0) pa_nil))))
        (pss_one (ps_raise raises_cx rfl (by rfl) T.m_NotTree T.x_NotTree (pa_cons pe_str pa_nil)))
        pss_nil))))), ?_⟩
    refine ⟨_, rfl, _, rfl, p, dx, aR, as, aT, aL, aS, b, z, rfl, B, z1, z2, fun hz => ?_, fun hz => q1 hz _ (Same.refl _)⟩
    refine ⟨_, rfl, p, dx, aR, as, aT, aL, aS, b, rfl, B, O.W, fun ho H1 s1 => ?_, fun ho H1 s1 => q2 hz ho H1 s1⟩
    refine ⟨_, rfl, p, dx, aR, as, aT, aL, aS, b, rfl, B.same s1, O.b4, fun l H2 s2 hl el => ?_⟩
    have s02 := s1.trans s2
    cases hw : ladenL b.loads with
    | cons s r =>
      rw [hw] at el
      refine ⟨l, _, rfl, SqL.of el, ?_⟩
      refine iteT ?_
      exact ⟨small12 (by show 1 ≤ 100; decide), q3 hz ho (by rw [hw]; exact List.cons_ne_nil _ _) H2 s02⟩
    | nil =>
      rw [hw] at el
      refine ⟨l, _, rfl, SqL.of el, ?_⟩
      refine iteF ?_
      refine ⟨_, rfl, p, dx, aR, as, aT, aL, aS, b, rfl, B.same s02, O.T, O.W, fun H3 s3 => ⟨_, rfl, ?_⟩⟩
      cases e : treeB b.rows b.turns with
      | true => exact iteF (q5 hz ho hw e H3 (s02.trans s3))
      | false =>
        refine iteT ?_
        exact ⟨small12 (by show 1 ≤ 100; decide), q4 hz ho hw e H3 (s02.trans s3)⟩
theorem sc_run_back : FnScope ["board", "at", "most", "trial", "done"] ["board", "at", "most"] (defScope s_run_back) := ⟨rfl, rfl, rfl, by decide +kernel, rfl, by decide +kernel, by decide +kernel⟩
theorem ok_run_back (T : Txt K mg A) (G_check_back : FnOk P w K mg base (CX1 P w) 5 A.f_check_back A.fd_check_back ["board", "at"] (spChkB A.C A.c_NoSite A.c_NotOpen A.c_NotBare A.c_NotTree)) (G_twin : FnOk P w K mg base CX0 5 A.f_Btwin A.fd_Btwin ["self"] (spTwin A.C)) (G_turn_back : FnOk P w K mg base (CX1 P w) 5 A.f_turn_back A.fd_turn_back ["board", "start", "most"] (spTurnB A.C A.c_TooLong)) (G_stand_like : FnOk P w K mg base CX0 1 A.f_Bstand_like A.fd_Bstand_like ["self", "other"] (spLike A.C)) : FnOk P w K mg base (CX1 P w) 6 A.f_run_back A.fd_run_back ["board", "at", "most"] (spBack A.C A.c_NoSite A.c_NotOpen A.c_NotBare A.c_NotTree A.c_TooLong) := by
  refine T.F_run_back.okX sc_run_back (fun vs H Q E h => ?_) (fun cdv A' outer s H vs Q E hr h => ?_)
  · obtain ⟨p, dx, aR, as, aT, aL, aS, b, st, most, rfl, _⟩ := h
    rfl
  · obtain ⟨p, dx, aR, as, aT, aL, aS, b, st, most, rfl, B, O, tm, z1, z2, m1, m2, q1, q2, q3, q4, q5, q6⟩ := h
    refine ⟨_, (pss_cons (ps_expr (pe_call G_check_back (hr.mono (by decide)) (by rfl) T.m_check_back T.k_check_back T.b_check_back .nil passX (pa_cons (pv 0) (pa_cons (pv 1) pa_nil))))
      (pss_cons (ps_set (i := 3) sc_run_back.nd rfl (Or.inl rfl) (pe_meth0 (pv 0) T.cl_Board T.mt_twin G_twin (hr.mono (by decide)) T.bm_twin .nil pass0))
      (pss_cons (ps_set (i := 4) sc_run_back.nd rfl (Or.inl rfl) (pe_call G_turn_back (hr.mono (by decide)) (by rfl) T.m_turn_back T.k_turn_back T.b_turn_back .nil passX (pa_cons (pv 3) (pa_cons (pv 1) (pa_cons (pv 2) pa_nil)))))
      (pss_cons (ps_expr (pe_meth (pv 0) T.cl_Board T.mt_stand_like G_stand_like (hr.mono (by decide)) T.bm_stand_like .nil pass0 (pa_cons (pv 3) pa_nil)))
      (pss_one (ps_ret (pv 4))))))), ?_⟩
    refine ⟨_, rfl, _, rfl, p, dx, aR, as, aT, aL, aS, b, st, rfl, B, O, z1, z2, q1, q2, q3, q4, fun hz ho hw ht H1 s1 => ?_⟩
    have B1 := B.same s1
    refine ⟨_, rfl, p, dx, _, rfl, B1.ob, (by rfl), p, dx, aR, as, aT, aL, aS, b, rfl, B1, O.W, fun p' dx' aR' as' aT' aL' aS' H2 B2 s2 fr2 => ?_⟩
    have s02 := s1.trans s2
    have fr0 : ∀ c ∈ p' :: aT' :: aL' :: aS' :: aR' :: as', H c = none := fun c hc => s1.free (fr2 c hc)
    have hpp : p ≠ p' := fun z => by have := fr0 p' (by simp); rw [← z, B.ob] at this; cases this
    refine ⟨_, rfl, _, rfl, _, rfl, p', dx', aR', as', aT', aL', aS', b, st, most, rfl, B2, O, ht, tm ho, hz.1, hz.2, m1, m2, fun N m Tu Bx Ax e et TT hN H3 B3 f3 => ?_, fun k Tu x Bx hk H3 f3 => q5 hz ho hw ht k Tu x Bx hk H3 (same_frame s02 fr0 f3)⟩
    have s03 := same_frame s02 fr0 f3
    have Bp := B.same s03
    refine ⟨_, rfl, p, dx, _, rfl, Bp.ob, (by rfl), _, rfl, p, dx, aR, as, aT, aL, aS, b, p', dx', aR', as', aT', aL', aS', _, rfl, Bp, B3, hpp, fun n1 n2 n3 H5 B5 k5 e1 e2 e3 => ?_⟩
    exact ⟨_, rfl, q6 hz ho hw ht N m Tu Bx Ax e et TT hN n1 n2 n3 H5 B5 (fun x o hx e => k5 x o hx (s03 x o e)) (s03.free e1) (s03.free e2) (s03.free e3)⟩
theorem sc_read_number : FnScope ["word"] ["word"] (defScope s_read_number) := ⟨rfl, rfl, rfl, by decide +kernel, rfl, by decide +kernel, by decide +kernel⟩
theorem ok_read_number (T : Txt K mg A) : FnOk P w K mg base CX0 1 A.f_read_number A.fd_read_number ["word"] spRdN := by
  refine T.F_read_number.ok sc_read_number (fun vs H Q E h => ?_) (fun cdv A' outer s H vs Q E hr h => ?_)
  · obtain ⟨n, rfl, _⟩ := h
    rfl
  · obtain ⟨n, rfl, N, q⟩ := h
    refine ⟨_, (pss_cons (ps_if (PW.pt (pw_or (pt_not (pt_chain op_le op_le pe_int (pe_callB call_len_str (by rfl) T.n_len PySem.boot_len (pa_cons (pv 0) pa_nil)) (pe_glob (v := .int (20)) (by rfl) T.g_MOST_FIGURES ⟨_, rfl⟩))) (pw_or1 (pt_not (pt_val (pe_callB (call_allK (K := K) rfl rfl) (by rfl) T.n_all PyProof.Rows.Boot.«all» (pa_cons (pe_comp (CompSc.of (N' := ["sign"]) (ix := [none]) rfl (by kernel_rfl)) rfl rfl rfl rfl (pi_str (pv 0)) (by exact fun _ _ _ _ _ => pf_nil) (by exact fun _ _ _ _ _ => (pe_cmpR op_in_str (pv 0) (pe_glob (v := .str "0123456789") (by rfl) T.g_FIGURES ⟨_, rfl⟩) (by with_unfolding_all rfl))) (fun _ => rfl)) pa_nil)))))))
        (pss_one ps_never)
        pss_nil)
      (pss_cons (ps_if (PW.pt (pw_and (pt_cmpR op_eq (pe_ix ix_str (pv 0) pe_int (fun _ _ => rfl)) pe_str (nomark _)) (pw_and1 (pt_cmpR op_ne (pv 0) pe_str (nomark _)))))
        (pss_one ps_never)
        pss_nil)
      (pss_one (ps_ret (pe_callTy call_int_str (by rfl) T.n_int PyProof.Rows.Boot.«int» (pa_cons (pv 0) pa_nil)))))), ?_⟩
    have l1 := num_pos N.1
    have l2 := num_le N
    have hd := num_digit N.1
    refine ⟨_, rfl, _, rfl, size_of (by omega), _, _, rfl, rfl, _, rfl, ?_⟩
    rw [decide_eq_true (show (1 : Int) ≤ ((numS n).length : Int) by omega)]
    refine iteT ?_
    refine ⟨_, _, rfl, rfl, _, rfl, ?_⟩
    rw [decide_eq_true (show ((numS n).length : Int) ≤ 20 by omega)]
    refine iteF ?_
    refine ⟨_, rfl, _, rfl, ascii_of hd, ?_⟩
    refine comp_pure (ys := (List.replicate (signsV (numS n)).length true).map V.bl) (wk_str (z := numS n)) (by rw [signsV, List.length_map]; exact size_of (by have e : (numS n).cps.toList.length = (numS n).length := Array.length_toList; omega)) (by simp) (fun i x y ex ey Q' q' => ?_) (fun D hD => ?_)
    · rw [signsV, List.getElem?_map] at ex
      cases ec : (numS n).cps.toList[i]? with
      | none => rw [ec] at ex; cases ex
      | some c =>
        rw [ec] at ex
        cases ex
        have hc := hd c (List.mem_of_getElem? ec)
        have ey' : y = V.bl true := by
          rw [List.getElem?_map, List.getElem?_replicate] at ey
          split at ey <;> cases ey
          rfl
        subst ey'
        refine ⟨_, rfl, _, _, rfl, rfl, ?_⟩
        rw [fig_in c hc.1 hc.2]
        exact q'
    refine ⟨D, _, rfl, SqL.of upd_same, _, rfl, ?_⟩
    have ea : (List.replicate (signsV (numS n)).length true).all id = true := by simp
    rw [ea]
    refine iteF ?_
    have s1 : Same H (upd H D (.lst ((List.replicate (signsV (numS n)).length true).map V.bl))) := same_new hD
    generalize upd H D (.lst ((List.replicate (signsV (numS n)).length true).map V.bl)) = H1 at s1
    obtain ⟨c, hc⟩ : ∃ c, (numS n).cps[0]? = some c := by
      have e : (numS n).cps.size = (numS n).length := rfl
      exact ⟨_, Array.getElem?_eq_getElem (by omega)⟩
    have hat : atI (numS n).cps.toList 0 = some c := at_list (n := 0) rfl (by simpa using hc)
    have e0 : Str.ofString "0" = ⟨#[48]⟩ := by decide +kernel
    refine ⟨_, rfl, _, _, c, rfl, rfl, size_of (by omega), hat, rfl, _, rfl, ?_⟩
    refine ite2 (fun h1 => ?_) (fun h1 => ?_)
    · have ec : c = 48 := by
        have h2 := of_decide_eq_true h1
        rw [e0] at h2
        injection h2 with h2
        injection h2 with h2
        simpa using h2
      have en := num_lead N.1 hc ec
      refine ⟨_, rfl, rfl, _, rfl, ?_⟩
      rw [decide_eq_true (show V.str (numS n) = V.str (Str.ofString "0") by rw [en])]
      refine iteF ?_
      exact ⟨_, rfl, _, n, rfl, num_int N, by omega, q _ s1⟩
    · exact ⟨_, rfl, _, n, rfl, num_int N, by omega, q _ s1⟩
theorem sc_read_way : FnScope ["word"] ["word"] (defScope s_read_way) := ⟨rfl, rfl, rfl, by decide +kernel, rfl, by decide +kernel, by decide +kernel⟩
theorem ok_read_way (T : Txt K mg A) (G_read_number : FnOk P w K mg base CX0 1 A.f_read_number A.fd_read_number ["word"] spRdN) : FnOk P w K mg base CX0 2 A.f_read_way A.fd_read_way ["word"] spRdW := by
  refine T.F_read_way.ok sc_read_way (fun vs H Q E h => ?_) (fun cdv A' outer s H vs Q E hr h => ?_)
  · obtain ⟨e, rfl, _⟩ := h
    rfl
  · obtain ⟨e, rfl, N, q⟩ := h
    refine ⟨_, (pss_one (ps_ret (pe_ifExp (pt_cmpR op_eq (pv 0) (pe_glob (v := .str "pit") (by rfl) T.g_PIT_WORD ⟨_, rfl⟩) (nomark _)) (pe_glob (v := .int (-1)) (by rfl) T.g_PIT ⟨_, rfl⟩) (pe_call G_read_number (hr.mono (by decide)) (by rfl) T.m_read_number T.k_read_number T.b_read_number .nil pass0 (pa_cons (pv 0) pa_nil))))), ?_⟩
    refine ⟨_, rfl, rfl, _, rfl, ?_⟩
    refine ite2 (fun h1 => ?_) (fun h1 => ?_)
    · have h2 := of_decide_eq_true h1
      injection h2 with h2
      have e1 := word_pit N h2
      subst e1
      exact q _ (Same.refl _)
    · have ne : e ≠ -1 := fun z => h1 (by rw [z]; exact decide_eq_true rfl)
      have ew : wordS e = numS e := by unfold wordS; rw [if_neg ne]
      have Ne : Nu e := N.resolve_left ne
      exact ⟨_, rfl, e, (by rw [ew]; rfl), Ne, q⟩
theorem sc_read_row : FnScope ["words"] ["words"] (defScope s_read_row) := ⟨rfl, rfl, rfl, by decide +kernel, rfl, by decide +kernel, by decide +kernel⟩
theorem ok_read_row (T : Txt K mg A) (G_read_way : FnOk P w K mg base CX0 2 A.f_read_way A.fd_read_way ["word"] spRdW) : FnOk P w K mg base CX0 3 A.f_read_row A.fd_read_row ["words"] (spRdR K) := by
  refine T.F_read_row.ok sc_read_row (fun vs H Q E h => ?_) (fun cdv A' outer s H vs Q E hr h => ?_)
  · obtain ⟨a, t, l, s', r, rfl, _⟩ := h
    rfl
  · obtain ⟨a, t, l, s', r, rfl, hS, hr', h8, q⟩ := h
    refine ⟨_, (pss_one (ps_ret (pe_comp (CompSc.of (N' := ["word"]) (ix := [none]) rfl (by kernel_rfl)) rfl rfl rfl rfl (pi_listK (K := K) rfl (pe_slice (sl_listK (K := K) rfl) (pv 0) (po_some pe_int) po_none)) (by exact fun _ _ _ _ _ => pf_nil) (by exact fun _ _ _ _ _ => (pe_call G_read_way (hr.mono (by decide)) (by rfl) T.m_read_way T.k_read_way T.b_read_way .nil pass0 (pa_cons (pv 0) pa_nil))) (fun _ => rfl)))), ?_⟩
    rw [lineW_map] at hS
    refine ⟨_, rfl, _, rfl, _, _, rfl, hS, fun p hp => ?_⟩
    rw [show (4 : Int) = ((4 : Nat) : Int) from rfl, cut_from (by simp)]
    have s1 : Same H (upd H p (.lst ((r.map wordS).map V.str))) := same_new hp
    have e1 : (upd H p (.lst ((r.map wordS).map V.str))) p = some (.lst ((r.map wordS).map V.str)) := upd_same
    refine ⟨p, rfl, ⟨_, SqL.of upd_same⟩, ?_⟩
    show CompW _ _ _ _ _ _ (upd H p (.lst ((r.map wordS).map V.str)))
    generalize upd H p (.lst ((r.map wordS).map V.str)) = H1 at s1 e1
    refine comp_valsS (ys := r.map V.int) (wk_list (K := K) (SqL.of e1)) (by rw [List.length_map, List.length_map]; exact small12 (by omega)) (by simp) (fun i x y H3 ex ey s3 Q' q' => ?_) (fun H' D s' hD => ?_)
    · rw [List.getElem?_map] at ex ey
      rw [List.getElem?_map] at ex
      cases er : r[i]? with
      | none => rw [er] at ex; cases ex
      | some e =>
        rw [er] at ex ey
        cases ex
        cases ey
        exact ⟨_, rfl, e, rfl, hr' e (List.mem_of_getElem? er), q'⟩
    · exact q D _ (same_upd (s1.trans s') (s1.free (s'.free hD))) (s1.free (s'.free hD)) upd_same
theorem sc_read_numbers : FnScope ["words"] ["words"] (defScope s_read_numbers) := ⟨rfl, rfl, rfl, by decide +kernel, rfl, by decide +kernel, by decide +kernel⟩
theorem ok_read_numbers (T : Txt K mg A) (G_read_number : FnOk P w K mg base CX0 1 A.f_read_number A.fd_read_number ["word"] spRdN) : FnOk P w K mg base CX0 2 A.f_read_numbers A.fd_read_numbers ["words"] (spRdS K) := by
  refine T.F_read_numbers.ok sc_read_numbers (fun vs H Q E h => ?_) (fun cdv A' outer s H vs Q E hr h => ?_)
  · obtain ⟨a, t, l, s', r, rfl, _⟩ := h
    rfl
  · obtain ⟨a, t, l, s', r, rfl, hS, Nt, Nl, Ns, q⟩ := h
    have hul : _ + (0 + 1) < cLine := Nat.lt_of_le_of_lt (Nat.add_le_add_left (by decide : 0 + 1 ≤ 64) _) hr.units
    refine ⟨_, (pss_cons (ps_if (pt_cmpR (op_neLK (K := K) 0 rfl hul) (pe_slice (sl_listK (K := K) rfl) (pv 0) (po_some pe_int) (po_some pe_int)) (pe_lst (pa_cons (pe_glob (v := .str ">") (by rfl) T.g_MARK ⟨_, rfl⟩) pa_nil)) (nomark _))
        (pss_one ps_never)
        pss_nil)
      (pss_one (ps_ret (pe_comp (CompSc.of (N' := ["word"]) (ix := [none]) rfl (by kernel_rfl)) rfl rfl rfl rfl (pi_listK (K := K) rfl (pe_slice (sl_listK (K := K) rfl) (pv 0) po_none (po_some pe_int))) (by exact fun _ _ _ _ _ => pf_nil) (by exact fun _ _ _ _ _ => (pe_call G_read_number (hr.mono (by decide)) (by rfl) T.m_read_number T.k_read_number T.b_read_number .nil pass0 (pa_cons (pv 0) pa_nil))) (fun _ => rfl))))), ?_⟩
    rw [lineW_map] at hS
    refine ⟨_, rfl, _, rfl, _, rfl, _, _, rfl, hS, fun p hp => ?_⟩
    rw [show (3 : Int) = ((3 : Nat) : Int) from rfl, show (4 : Int) = ((4 : Nat) : Int) from rfl, cut_mid (by decide) (by simp)]
    have s1 : Same H (upd H p (.lst [V.str (Str.ofString ">")])) := same_new hp
    have e1 : (upd H p (.lst [V.str (Str.ofString ">")])) p = some (.lst [V.str (Str.ofString ">")]) := upd_same
    show tLst _ _ (upd H p (.lst [V.str (Str.ofString ">")])) _
    generalize upd H p (.lst [V.str (Str.ofString ">")]) = H1 at s1 e1
    refine ⟨small12 (by show 1 ≤ 100; decide), fun l2 hl2 => ⟨⟨p, l2, _, _, rfl, rfl, SqL.of (same_new hl2 _ _ e1), SqL.of upd_same, rfl, fun i u v eu ev => ?_⟩, _, rfl, ?_⟩⟩
    · match i, eu, ev with
      | 0, eu, ev => cases eu; cases ev; exact ⟨rfl, rfl, by simp [eqV]⟩
      | i + 1, eu, _ => simp at eu
    refine iteF ?_
    have s2 : Same H (upd H1 l2 (.lst [V.str (Str.ofString ">")])) := same_upd s1 (s1.free hl2)
    show tNext _ _ (upd H1 l2 (.lst [V.str (Str.ofString ">")]))
    generalize upd H1 l2 (.lst [V.str (Str.ofString ">")]) = H2 at s2
    refine ⟨_, rfl, _, rfl, _, _, rfl, s2.seq hS, fun p3 hp3 => ?_⟩
    rw [cut_to (by simp)]
    have s3 : Same H2 (upd H2 p3 (.lst ([numS t, numS l, numS s'].map V.str))) := same_new hp3
    have e3 : (upd H2 p3 (.lst ([numS t, numS l, numS s'].map V.str))) p3 = some (.lst ([numS t, numS l, numS s'].map V.str)) := upd_same
    refine ⟨p3, rfl, ⟨_, SqL.of upd_same⟩, ?_⟩
    show CompW _ _ _ _ _ _ (upd H2 p3 (.lst ([numS t, numS l, numS s'].map V.str)))
    generalize upd H2 p3 (.lst ([numS t, numS l, numS s'].map V.str)) = H3 at s3 e3
    have s03 := s2.trans s3
    refine comp_valsS (ys := [t, l, s'].map V.int) (wk_list (K := K) (SqL.of e3)) (small12 (by show 3 ≤ 100; decide)) rfl (fun i x y H4 ex ey s4 Q' q' => ?_) (fun H' D s' hD => ?_)
    · match i, ex, ey with
      | 0, ex, ey => cases ex; cases ey; exact ⟨_, rfl, t, rfl, Nt, q'⟩
      | 1, ex, ey => cases ex; cases ey; exact ⟨_, rfl, l, rfl, Nl, q'⟩
      | 2, ex, ey => cases ex; cases ey; exact ⟨_, rfl, s', rfl, Ns, q'⟩
      | i + 3, ex, _ => simp at ex
    · exact q D _ (same_upd (s03.trans s') (s03.free (s'.free hD))) (s03.free (s'.free hD)) upd_same
theorem sc_read_head : FnScope ["words"] ["words"] (defScope s_read_head) := ⟨rfl, rfl, rfl, by decide +kernel, rfl, by decide +kernel, by decide +kernel⟩
theorem ok_read_head (T : Txt K mg A) (G_read_number : FnOk P w K mg base CX0 1 A.f_read_number A.fd_read_number ["word"] spRdN) : FnOk P w K mg base CX0 2 A.f_read_head A.fd_read_head ["words"] (spRdH K) := by
  refine T.F_read_head.ok sc_read_head (fun vs H Q E h => ?_) (fun cdv A' outer s H vs Q E hr h => ?_)
  · obtain ⟨a, w', rfl, _⟩ := h
    rfl
  · obtain ⟨a, w', rfl, hS, N, q⟩ := h
    refine ⟨_, (pss_cons (ps_if (PW.pt (pw_or (pt_cmpR op_ne (pe_callB (call_lenK (K := K) rfl) (by rfl) T.n_len PySem.boot_len (pa_cons (pv 0) pa_nil)) pe_int (nomark _)) (pw_or1 (pt_cmpR op_ne (pe_ix (ix_listK (K := K) rfl) (pv 0) pe_int (fun _ _ => rfl)) (pe_glob (v := .str "board") (by rfl) T.g_HEAD ⟨_, rfl⟩) (nomark _)))))
        (pss_one ps_never)
        pss_nil)
      (pss_one (ps_ret (pe_call G_read_number (hr.mono (by decide)) (by rfl) T.m_read_number T.k_read_number T.b_read_number .nil pass0 (pa_cons (pe_ix (ix_listK (K := K) rfl) (pv 0) pe_int (fun _ _ => rfl)) pa_nil))))), ?_⟩
    refine ⟨_, rfl, _, _, rfl, .inl hS, rfl, _, rfl, ?_⟩
    refine iteF ?_
    refine ⟨_, rfl, _, _, _, _, rfl, rfl, hS, at_list (n := 0) rfl rfl, rfl, _, rfl, ?_⟩
    refine iteF ?_
    exact ⟨_, rfl, _, _, _, _, rfl, rfl, hS, at_list (n := 1) rfl rfl, w', rfl, N, q⟩
theorem sc_told : FnScope ["rows", "numbers", "board", "at", "of_site"] ["rows", "numbers"] (defScope s_told) := ⟨rfl, rfl, rfl, by decide +kernel, rfl, by decide +kernel, by decide +kernel⟩
theorem ok_told (T : Txt K mg A) (G_i_Board : FnOk P w K mg base (CX1 P w) 3 A.f_Binit A.fd_Binit ["self", "rows"] (spInitX A.C A.c_NoSite A.c_NoExit)) (G_turn_to : FnOk P w K mg base (CX1 P w) 2 A.f_Bturn_to A.fd_Bturn_to ["self", "at", "place"] (spTurn A.C A.c_NoSite A.c_NoPlace)) (G_load : FnOk P w K mg base (CX1 P w) 2 A.f_Bload A.fd_Bload ["self", "at", "many"] (spLoad A.C A.c_NoSite A.c_TooMany)) : FnOk P w K mg base (CX1 P w) 5 A.f_told A.fd_told ["rows", "numbers"] (spTld0 A.c_NoSite) := by
  refine T.F_told.okX sc_told (fun vs H Q E h => ?_) (fun cdv A' outer s H vs Q E hr h => ?_)
  · obtain ⟨R, N, rfl, _⟩ := h
    rfl
  · obtain ⟨R, N, rfl, M, q⟩ := h
    refine ⟨_, (pss_cons (ps_set (i := 2) sc_told.nd rfl (Or.inl rfl) (pe_make T.mk_Board G_i_Board (hr.mono (by decide)) (by rfl) T.m_Board T.bi_Board .nil passX (pa_cons (pv 0) pa_nil)))
      (pss_cons (ps_for PassesOwn.leaving rfl (pi_enum (K := K) rfl (by rfl) T.n_enumerate (pa_cons (pv 1) pa_nil)) (pg_tup rfl (pgs_cons (pg_name (i := 3) sc_told.nd rfl (Or.inl rfl)) (pgs_cons (pg_name (i := 4) sc_told.nd rfl (Or.inl rfl)) pgs_nil)))
        (pss_cons (ps_expr (pe_meth (pv 2) T.cl_Board T.mt_turn_to G_turn_to (hr.mono (by decide)) T.bm_turn_to .nil passX (pa_cons (pv 3) (pa_cons (pe_ix (ix_listK (K := K) rfl) (pv 4) pe_int (fun _ _ => rfl)) pa_nil))))
        (pss_cons (ps_expr (pe_meth (pv 2) T.cl_Board T.mt_load G_load (hr.mono (by decide)) T.bm_load .nil passX (pa_cons (pv 3) (pa_cons (pe_ix (ix_listK (K := K) rfl) (pv 4) pe_int (fun _ _ => rfl)) pa_nil))))
        (pss_one (ps_asg (pe_ix (ix_listK (K := K) rfl) (pv 4) pe_int (fun _ _ => rfl)) (pg_sub (pe_fldK (K := K) rfl (pv 2) rfl) (pv 3) set_list))))))
      (pss_one (ps_ret (pv 2))))), ?_⟩
    refine ⟨_, rfl, ?_⟩
    intro p dx hp hdx hne
    exact ⟨p, dx, R, [], [], rfl, upd_same, M.same (same_upd (same_new hdx) hp), fun r hr => (by cases hr), fun W => absurd W.1 (by decide), fun _ => q _ (same_upd (same_new hdx) hp), fun z => absurd z.1 (by decide)⟩
theorem sc_read : FnScope ["text", "lines", "taken", "numbers", "rows", "board", "refusal"] ["text"] (defScope s_read) := ⟨rfl, rfl, rfl, by decide +kernel, rfl, by decide +kernel, by decide +kernel⟩
theorem ok_read (T : Txt K mg A) (G_read_head : FnOk P w K mg base CX0 2 A.f_read_head A.fd_read_head ["words"] (spRdH K)) (G_read_numbers : FnOk P w K mg base CX0 2 A.f_read_numbers A.fd_read_numbers ["words"] (spRdS K)) (G_read_row : FnOk P w K mg base CX0 3 A.f_read_row A.fd_read_row ["words"] (spRdR K)) (G_told : FnOk P w K mg base (CX1 P w) 5 A.f_told A.fd_told ["rows", "numbers"] (spTld0 A.c_NoSite)) : FnOk P w K mg base (CX1 P w) 6 A.f_read A.fd_read ["text"] (spRd28 A.c_NoBoard) := by
  refine T.F_read.okX sc_read (fun vs H Q E h => ?_) (fun cdv A' outer s H vs Q E hr h => ?_)
  · obtain ⟨k, rfl, _⟩ := h
    rfl
  · obtain ⟨k, rfl, N, q⟩ := h
    refine ⟨_, (pss_cons (ps_setComp (i := 1) sc_read.nd rfl rfl (CompSc.of (N' := ["line"]) (ix := [none]) rfl (by kernel_rfl)) rfl rfl rfl rfl (pi_listK (K := K) rfl (pe_bm PySem.F.plainAttrs_str PySem.F.slot_str_split PySem.F.type_str_split mt_split (pv 0) (pa_cons pe_str pa_nil))) (by exact fun _ _ _ _ _ => pf_nil) (by exact fun _ _ _ _ _ => (pe_bmC (K := K) rfl PySem.F.plainAttrs_str PySem.F.slot_str_split PySem.F.type_str_split mt_split (pv 0) (pa_cons pe_str pa_nil))))
      (pss_cons (ps_set (i := 2) sc_read.nd rfl (Or.inl rfl) (pe_call G_read_head (hr.mono (by decide)) (by rfl) T.m_read_head T.k_read_head T.b_read_head .nil pass0 (pa_cons (pe_ix (ix_listK (K := K) rfl) (pv 1) pe_int (fun _ _ => rfl)) pa_nil)))
      (pss_cons (ps_setComp (i := 3) sc_read.nd rfl rfl (CompSc.of (N' := ["words"]) (ix := [none]) rfl (by kernel_rfl)) rfl rfl rfl rfl (pi_listK (K := K) rfl (pe_slice (sl_listK (K := K) rfl) (pv 1) (po_some pe_int) po_none)) (by exact fun _ _ _ _ _ => pf_nil) (by exact fun _ _ _ _ _ => (pe_call G_read_numbers (hr.mono (by decide)) (by rfl) T.m_read_numbers T.k_read_numbers T.b_read_numbers .nil pass0 (pa_cons (pv 0) pa_nil))))
      (pss_cons (ps_setComp (i := 4) sc_read.nd rfl rfl (CompSc.of (N' := ["words"]) (ix := [none]) rfl (by kernel_rfl)) rfl rfl rfl rfl (pi_listK (K := K) rfl (pe_slice (sl_listK (K := K) rfl) (pv 1) (po_some pe_int) po_none)) (by exact fun _ _ _ _ _ => pf_nil) (by exact fun _ _ _ _ _ => (pe_call G_read_row (hr.mono (by decide)) (by rfl) T.m_read_row T.k_read_row T.b_read_row .nil pass0 (pa_cons (pv 0) pa_nil))))
      (pss_cons (ps_tryA (i := 5) rfl rfl sc_read.nd rfl (Or.inl rfl) (px_call G_told (hr.mono (by decide)) (by rfl) T.m_told T.k_told T.b_told (pa_cons (pv 4) (pa_cons (pv 3) pa_nil)))
        (ph_from rfl rfl leavesH_cx sc_read.nd (i := 6) rfl rfl (.inl rfl) (by rfl) T.m_BoardError T.kb_BoardError (by rfl) T.m_NoBoard T.x_NoBoard (by exact fun _ => (pa_cons pe_str pa_nil)) ph_nil))
      (pss_cons (ps_fldK (K := K) rfl (pv 5) (pv 2) rfl)
      (pss_one (ps_ret (pv 5))))))))), ?_⟩
    have lh := head_len N.sm
    have lz : (headS k).length + 2 ≤ sizeLine := size_of (by omega)
    refine ⟨_, rfl, rfl, headS k, 10, rfl, congrArg (fun x => [V.str x]) nl_is, lz, fun l0 hl0 => ?_⟩
    rw [head_nl N]
    have s0 : Same H (upd H l0 (.lst ([headS k].map V.str))) := same_new hl0
    have e0 : (upd H l0 (.lst ([headS k].map V.str))) l0 = some (.lst ([headS k].map V.str)) := upd_same
    refine ⟨l0, rfl, ⟨_, SqL.of upd_same⟩, ?_⟩
    show CompW _ _ _ _ _ _ (upd H l0 (.lst ([headS k].map V.str)))
    generalize upd H l0 (.lst ([headS k].map V.str)) = H0 at s0 e0
    refine comp_news (ls := [(headW k).map V.str]) (wk_list (K := K) (SqL.of e0)) (small12 (by show 1 ≤ 100; decide)) rfl (fun i x l H3 ex el s3 Q' q' => ?_) (fun as H1 s1 hlen nd fr hrow D hD => ?_)
    · match i, ex, el with
      | 0, ex, el =>
        cases ex
        cases el
        rw [← head_split N] at q'
        exact ⟨_, rfl, rfl, headS k, 32, rfl, congrArg (fun x => [V.str x]) sp_is, lz, q'⟩
      | i + 1, ex, _ => simp at ex
    obtain ⟨a0, rfl⟩ : ∃ a0, as = [a0] := by
      match as, hlen with
      | [a0], _ => exact ⟨a0, rfl⟩
    have ea := hrow 0 a0 _ rfl rfl
    have s1' : Same H1 (upd H1 D (.lst ([a0].map V.ref))) := same_new hD
    have eD : (upd H1 D (.lst ([a0].map V.ref))) D = some (.lst ([a0].map V.ref)) := upd_same
    generalize upd H1 D (.lst ([a0].map V.ref)) = H2 at s1' eD
    refine ⟨_, rfl, _, _, _, _, rfl, rfl, SqL.of eD, at_list (n := 0) rfl rfl, a0, k, rfl, SqL.of (s1' _ _ ea), N, fun H3 s3 => ?_⟩
    refine ⟨_, rfl, _, rfl, _, _, rfl, SqL.of (s3 _ _ eD), fun p4 hp4 => ?_⟩
    rw [show (1 : Int) = ((1 : Nat) : Int) from rfl, cut_from (by simp)]
    have s4 : Same H3 (upd H3 p4 (.lst [])) := same_new hp4
    have e4 : (upd H3 p4 (.lst [])) p4 = some (.lst []) := upd_same
    refine ⟨p4, rfl, ⟨_, SqL.of upd_same⟩, ?_⟩
    show CompW _ _ _ _ _ _ (upd H3 p4 (.lst []))
    generalize upd H3 p4 (.lst []) = H4 at s4 e4
    refine comp_newsS (ls := []) (wk_list (K := K) (SqL.of e4)) (small12 (by show 0 ≤ 100; decide)) rfl (fun i x l H5 ex el s5 Q' q' => (by cases ex)) (fun ns H5 s5 hlen5 nd5 fr5 hrow5 N' hN => ?_)
    have s6 : Same H3 (upd H5 N' (.lst (ns.map V.ref))) := (s4.trans s5).trans (same_new hN)
    generalize upd H5 N' (.lst (ns.map V.ref)) = H6 at s6
    refine ⟨_, rfl, _, rfl, _, _, rfl, SqL.of (s6 _ _ (s3 _ _ eD)), fun p7 hp7 => ?_⟩
    rw [cut_from (by simp)]
    have e7 : (upd H6 p7 (.lst [])) p7 = some (.lst []) := upd_same
    refine ⟨p7, rfl, ⟨_, SqL.of upd_same⟩, ?_⟩
    show CompW _ _ _ _ _ _ (upd H6 p7 (.lst []))
    generalize upd H6 p7 (.lst []) = H7 at e7
    refine comp_newsS (ls := []) (wk_list (K := K) (SqL.of e7)) (small12 (by show 0 ≤ 100; decide)) rfl (fun i x l H5 ex el s5 Q' q' => (by cases ex)) (fun rs H8 s8 hlen8 nd8 fr8 hrow8 R hR => ?_)
    have MR := mat_of (H := H7) (R := R) (rows := []) (by simpa using hlen8) nd8 s8 (fun i a l e1 e2 => by simp at e2) hR
    obtain rfl : rs = [] := List.eq_nil_of_length_eq_zero (by simpa using hlen8)
    generalize upd H8 R (.lst (([] : List Addr).map V.ref)) = H9 at MR
    refine ⟨fun cls c H' => cls = .ref A.c_NoSite ∧ c = none, ⟨_, rfl, _, rfl, R, N', rfl, MR, fun H' _ => ⟨rfl, rfl⟩⟩, ?_⟩
    rintro cls c H' ⟨rfl, rfl⟩
    refine ⟨A.c_NoSite, true, rfl, T.ne_NoSite_BoardError, T.p_NoSite_BoardError, iteT ⟨rfl, T.x_NoSite, fun e he => ⟨small12 (by show 1 ≤ 100; decide), upd_same, q e _⟩⟩⟩
theorem sc_marks : FnScope ["e", "found"] ["e"] (defScope s_marks) := ⟨rfl, rfl, rfl, by decide +kernel, rfl, by decide +kernel, by decide +kernel⟩
theorem ok_marks (T : Txt K mg A) : FnH P w K mg base A.f_marks A.fd_marks ["e"] (spMarks A) := by
  refine T.F_marks.okH sc_marks (fun vs H Q E h => ?_) (fun cdv A' outer s H vs Q h => ?_)
  · obtain ⟨e, w', rfl, _⟩ := h
    rfl
  · obtain ⟨e, w', rfl, hw, he0, q⟩ := h
    refine ⟨_, (pss_cons (ps_set (i := 1) sc_marks.nd rfl (Or.inl rfl) (pe_lst (pa_cons (pe_callB (call_isx (K := K) rfl) (by rfl) T.n_isinstance PyProof.Rows.Boot.«isinstance» (pa_cons (pv 0) (pa_cons (pe_glob (v := .ref _) (by rfl) T.m_NoPlace rfl) pa_nil))) (pa_cons (pe_callB (call_isx (K := K) rfl) (by rfl) T.n_isinstance PyProof.Rows.Boot.«isinstance» (pa_cons (pv 0) (pa_cons (pe_glob (v := .ref _) (by rfl) T.m_NoSite rfl) pa_nil))) (pa_cons (pe_callB (call_isx (K := K) rfl) (by rfl) T.n_isinstance PyProof.Rows.Boot.«isinstance» (pa_cons (pv 0) (pa_cons (pe_glob (v := .ref _) (by rfl) T.m_NoExit rfl) pa_nil))) (pa_cons (pe_callB (call_isx (K := K) rfl) (by rfl) T.n_isinstance PyProof.Rows.Boot.«isinstance» (pa_cons (pv 0) (pa_cons (pe_glob (v := .ref _) (by rfl) T.m_NoMarble rfl) pa_nil))) pa_nil))))))
      (pss_cons (ps_set (i := 1) sc_marks.nd rfl (Or.inl rfl) (pe_op op_cat (pv 1) (pe_lst (pa_cons (pe_callB (call_isx (K := K) rfl) (by rfl) T.n_isinstance PyProof.Rows.Boot.«isinstance» (pa_cons (pv 0) (pa_cons (pe_glob (v := .ref _) (by rfl) T.m_TooMany rfl) pa_nil))) (pa_cons (pe_callB (call_isx (K := K) rfl) (by rfl) T.n_isinstance PyProof.Rows.Boot.«isinstance» (pa_cons (pv 0) (pa_cons (pe_glob (v := .ref _) (by rfl) T.m_NotOpen rfl) pa_nil))) (pa_cons (pe_callB (call_isx (K := K) rfl) (by rfl) T.n_isinstance PyProof.Rows.Boot.«isinstance» (pa_cons (pv 0) (pa_cons (pe_glob (v := .ref _) (by rfl) T.m_NotBare rfl) pa_nil))) (pa_cons (pe_callB (call_isx (K := K) rfl) (by rfl) T.n_isinstance PyProof.Rows.Boot.«isinstance» (pa_cons (pv 0) (pa_cons (pe_glob (v := .ref _) (by rfl) T.m_NotTree rfl) pa_nil))) pa_nil)))))))
      (pss_one (ps_ret (pe_op op_cat (pv 1) (pe_lst (pa_cons (pe_callB (call_isx (K := K) rfl) (by rfl) T.n_isinstance PyProof.Rows.Boot.«isinstance» (pa_cons (pv 0) (pa_cons (pe_glob (v := .ref _) (by rfl) T.m_TooLong rfl) pa_nil))) (pa_cons (pe_callB (call_isx (K := K) rfl) (by rfl) T.n_isinstance PyProof.Rows.Boot.«isinstance» (pa_cons (pv 0) (pa_cons (pe_glob (v := .ref _) (by rfl) T.m_NoBoard rfl) pa_nil))) (pa_cons (pe_callB (call_isx (K := K) rfl) (by rfl) T.n_isinstance PyProof.Rows.Boot.«isinstance» (pa_cons (pv 0) (pa_cons (pe_bltn (v := .ty "ValueError") (by rfl) T.n_ValueError PyProof.Rows.Boot.«ValueError» rfl) pa_nil))) pa_nil))))))))), ?_⟩
    rcases (show w' = 0 ∨ w' = 1 ∨ w' = 2 ∨ w' = 3 ∨ w' = 4 ∨ w' = 5 ∨ w' = 6 ∨ w' = 7 ∨ w' = 8 ∨ w' = 9 by omega) with rfl | rfl | rfl | rfl | rfl | rfl | rfl | rfl | rfl | rfl
    · have he : H e = some (excO A.c_NoPlace e) := he0
      refine ⟨_, rfl, e, A.c_NoPlace, _, _, true, rfl, rfl, he, T.xi_NoPlace, kit_self, _, rfl, e, A.c_NoPlace, _, _, false, rfl, rfl, he, T.xi_NoPlace, T.p_NoPlace_NoSite, _, rfl, e, A.c_NoPlace, _, _, false, rfl, rfl, he, T.xi_NoPlace, T.p_NoPlace_NoExit, _, rfl, e, A.c_NoPlace, _, _, false, rfl, rfl, he, T.xi_NoPlace, T.p_NoPlace_NoMarble, small12 (by show 4 ≤ 100; decide), fun l1 h1 => ?_⟩
      have s1 := same_new h1 (o := .lst [V.bl true, V.bl false, V.bl false, V.bl false])
      have e1 : (upd H l1 (.lst [V.bl true, V.bl false, V.bl false, V.bl false])) l1 = some (.lst [V.bl true, V.bl false, V.bl false, V.bl false]) := upd_same
      refine (show _ from ?_)
      generalize upd H l1 (.lst [V.bl true, V.bl false, V.bl false, V.bl false]) = H1 at s1 e1
      refine ⟨_, rfl, _, rfl, e, A.c_NoPlace, _, _, false, rfl, rfl, (s1 _ _ he), T.xi_NoPlace, T.p_NoPlace_TooMany, _, rfl, e, A.c_NoPlace, _, _, false, rfl, rfl, (s1 _ _ he), T.xi_NoPlace, T.p_NoPlace_NotOpen, _, rfl, e, A.c_NoPlace, _, _, false, rfl, rfl, (s1 _ _ he), T.xi_NoPlace, T.p_NoPlace_NotBare, _, rfl, e, A.c_NoPlace, _, _, false, rfl, rfl, (s1 _ _ he), T.xi_NoPlace, T.p_NoPlace_NotTree, small12 (by show 4 ≤ 100; decide), fun l2 h2 => ⟨l1, l2, _, _, rfl, rfl, same_new h2 _ _ e1, upd_same, small12 (by show 8 ≤ 100; decide), fun l3 h3 => ?_⟩⟩
      have s2 := same_upd (same_new h2 (o := .lst [V.bl false, V.bl false, V.bl false, V.bl false])) ((same_new h2 (o := .lst [V.bl false, V.bl false, V.bl false, V.bl false])).free h3) (o := .lst ([V.bl true, V.bl false, V.bl false, V.bl false] ++ [V.bl false, V.bl false, V.bl false, V.bl false]))
      have e3 : (upd (upd H1 l2 (.lst [V.bl false, V.bl false, V.bl false, V.bl false])) l3 (.lst ([V.bl true, V.bl false, V.bl false, V.bl false] ++ [V.bl false, V.bl false, V.bl false, V.bl false]))) l3 = some (.lst ([V.bl true, V.bl false, V.bl false, V.bl false] ++ [V.bl false, V.bl false, V.bl false, V.bl false])) := upd_same
      refine (show _ from ?_)
      generalize upd (upd H1 l2 (.lst [V.bl false, V.bl false, V.bl false, V.bl false])) l3 (.lst ([V.bl true, V.bl false, V.bl false, V.bl false] ++ [V.bl false, V.bl false, V.bl false, V.bl false])) = H3 at s2 e3
      exact ⟨_, rfl, _, rfl, e, A.c_NoPlace, _, _, false, rfl, rfl, (s2 _ _ (s1 _ _ he)), T.xi_NoPlace, T.p_NoPlace_TooLong, _, rfl, e, A.c_NoPlace, _, _, false, rfl, rfl, (s2 _ _ (s1 _ _ he)), T.xi_NoPlace, T.p_NoPlace_NoBoard, _, rfl, e, A.c_NoPlace, _, _, true, rfl, rfl, (s2 _ _ (s1 _ _ he)), T.xi_NoPlace, T.qt_NoPlace_ValueError, small12 (by show 3 ≤ 100; decide), fun l4 h4 => ⟨l3, l4, _, _, rfl, rfl, same_new h4 _ _ e3, upd_same, small12 (by show 11 ≤ 100; decide), fun l5 h5 => q l5 _ upd_same⟩⟩
    · have he : H e = some (excO A.c_NoSite e) := he0
      refine ⟨_, rfl, e, A.c_NoSite, _, _, false, rfl, rfl, he, T.xi_NoSite, T.p_NoSite_NoPlace, _, rfl, e, A.c_NoSite, _, _, true, rfl, rfl, he, T.xi_NoSite, kit_self, _, rfl, e, A.c_NoSite, _, _, false, rfl, rfl, he, T.xi_NoSite, T.p_NoSite_NoExit, _, rfl, e, A.c_NoSite, _, _, false, rfl, rfl, he, T.xi_NoSite, T.p_NoSite_NoMarble, small12 (by show 4 ≤ 100; decide), fun l1 h1 => ?_⟩
      have s1 := same_new h1 (o := .lst [V.bl false, V.bl true, V.bl false, V.bl false])
      have e1 : (upd H l1 (.lst [V.bl false, V.bl true, V.bl false, V.bl false])) l1 = some (.lst [V.bl false, V.bl true, V.bl false, V.bl false]) := upd_same
      refine (show _ from ?_)
      generalize upd H l1 (.lst [V.bl false, V.bl true, V.bl false, V.bl false]) = H1 at s1 e1
      refine ⟨_, rfl, _, rfl, e, A.c_NoSite, _, _, false, rfl, rfl, (s1 _ _ he), T.xi_NoSite, T.p_NoSite_TooMany, _, rfl, e, A.c_NoSite, _, _, false, rfl, rfl, (s1 _ _ he), T.xi_NoSite, T.p_NoSite_NotOpen, _, rfl, e, A.c_NoSite, _, _, false, rfl, rfl, (s1 _ _ he), T.xi_NoSite, T.p_NoSite_NotBare, _, rfl, e, A.c_NoSite, _, _, false, rfl, rfl, (s1 _ _ he), T.xi_NoSite, T.p_NoSite_NotTree, small12 (by show 4 ≤ 100; decide), fun l2 h2 => ⟨l1, l2, _, _, rfl, rfl, same_new h2 _ _ e1, upd_same, small12 (by show 8 ≤ 100; decide), fun l3 h3 => ?_⟩⟩
      have s2 := same_upd (same_new h2 (o := .lst [V.bl false, V.bl false, V.bl false, V.bl false])) ((same_new h2 (o := .lst [V.bl false, V.bl false, V.bl false, V.bl false])).free h3) (o := .lst ([V.bl false, V.bl true, V.bl false, V.bl false] ++ [V.bl false, V.bl false, V.bl false, V.bl false]))
      have e3 : (upd (upd H1 l2 (.lst [V.bl false, V.bl false, V.bl false, V.bl false])) l3 (.lst ([V.bl false, V.bl true, V.bl false, V.bl false] ++ [V.bl false, V.bl false, V.bl false, V.bl false]))) l3 = some (.lst ([V.bl false, V.bl true, V.bl false, V.bl false] ++ [V.bl false, V.bl false, V.bl false, V.bl false])) := upd_same
      refine (show _ from ?_)
      generalize upd (upd H1 l2 (.lst [V.bl false, V.bl false, V.bl false, V.bl false])) l3 (.lst ([V.bl false, V.bl true, V.bl false, V.bl false] ++ [V.bl false, V.bl false, V.bl false, V.bl false])) = H3 at s2 e3
      exact ⟨_, rfl, _, rfl, e, A.c_NoSite, _, _, false, rfl, rfl, (s2 _ _ (s1 _ _ he)), T.xi_NoSite, T.p_NoSite_TooLong, _, rfl, e, A.c_NoSite, _, _, false, rfl, rfl, (s2 _ _ (s1 _ _ he)), T.xi_NoSite, T.p_NoSite_NoBoard, _, rfl, e, A.c_NoSite, _, _, true, rfl, rfl, (s2 _ _ (s1 _ _ he)), T.xi_NoSite, T.qt_NoSite_ValueError, small12 (by show 3 ≤ 100; decide), fun l4 h4 => ⟨l3, l4, _, _, rfl, rfl, same_new h4 _ _ e3, upd_same, small12 (by show 11 ≤ 100; decide), fun l5 h5 => q l5 _ upd_same⟩⟩
    · have he : H e = some (excO A.c_NoExit e) := he0
      refine ⟨_, rfl, e, A.c_NoExit, _, _, false, rfl, rfl, he, T.xi_NoExit, T.p_NoExit_NoPlace, _, rfl, e, A.c_NoExit, _, _, false, rfl, rfl, he, T.xi_NoExit, T.p_NoExit_NoSite, _, rfl, e, A.c_NoExit, _, _, true, rfl, rfl, he, T.xi_NoExit, kit_self, _, rfl, e, A.c_NoExit, _, _, false, rfl, rfl, he, T.xi_NoExit, T.p_NoExit_NoMarble, small12 (by show 4 ≤ 100; decide), fun l1 h1 => ?_⟩
      have s1 := same_new h1 (o := .lst [V.bl false, V.bl false, V.bl true, V.bl false])
      have e1 : (upd H l1 (.lst [V.bl false, V.bl false, V.bl true, V.bl false])) l1 = some (.lst [V.bl false, V.bl false, V.bl true, V.bl false]) := upd_same
      refine (show _ from ?_)
      generalize upd H l1 (.lst [V.bl false, V.bl false, V.bl true, V.bl false]) = H1 at s1 e1
      refine ⟨_, rfl, _, rfl, e, A.c_NoExit, _, _, false, rfl, rfl, (s1 _ _ he), T.xi_NoExit, T.p_NoExit_TooMany, _, rfl, e, A.c_NoExit, _, _, false, rfl, rfl, (s1 _ _ he), T.xi_NoExit, T.p_NoExit_NotOpen, _, rfl, e, A.c_NoExit, _, _, false, rfl, rfl, (s1 _ _ he), T.xi_NoExit, T.p_NoExit_NotBare, _, rfl, e, A.c_NoExit, _, _, false, rfl, rfl, (s1 _ _ he), T.xi_NoExit, T.p_NoExit_NotTree, small12 (by show 4 ≤ 100; decide), fun l2 h2 => ⟨l1, l2, _, _, rfl, rfl, same_new h2 _ _ e1, upd_same, small12 (by show 8 ≤ 100; decide), fun l3 h3 => ?_⟩⟩
      have s2 := same_upd (same_new h2 (o := .lst [V.bl false, V.bl false, V.bl false, V.bl false])) ((same_new h2 (o := .lst [V.bl false, V.bl false, V.bl false, V.bl false])).free h3) (o := .lst ([V.bl false, V.bl false, V.bl true, V.bl false] ++ [V.bl false, V.bl false, V.bl false, V.bl false]))
      have e3 : (upd (upd H1 l2 (.lst [V.bl false, V.bl false, V.bl false, V.bl false])) l3 (.lst ([V.bl false, V.bl false, V.bl true, V.bl false] ++ [V.bl false, V.bl false, V.bl false, V.bl false]))) l3 = some (.lst ([V.bl false, V.bl false, V.bl true, V.bl false] ++ [V.bl false, V.bl false, V.bl false, V.bl false])) := upd_same
      refine (show _ from ?_)
      generalize upd (upd H1 l2 (.lst [V.bl false, V.bl false, V.bl false, V.bl false])) l3 (.lst ([V.bl false, V.bl false, V.bl true, V.bl false] ++ [V.bl false, V.bl false, V.bl false, V.bl false])) = H3 at s2 e3
      exact ⟨_, rfl, _, rfl, e, A.c_NoExit, _, _, false, rfl, rfl, (s2 _ _ (s1 _ _ he)), T.xi_NoExit, T.p_NoExit_TooLong, _, rfl, e, A.c_NoExit, _, _, false, rfl, rfl, (s2 _ _ (s1 _ _ he)), T.xi_NoExit, T.p_NoExit_NoBoard, _, rfl, e, A.c_NoExit, _, _, true, rfl, rfl, (s2 _ _ (s1 _ _ he)), T.xi_NoExit, T.qt_NoExit_ValueError, small12 (by show 3 ≤ 100; decide), fun l4 h4 => ⟨l3, l4, _, _, rfl, rfl, same_new h4 _ _ e3, upd_same, small12 (by show 11 ≤ 100; decide), fun l5 h5 => q l5 _ upd_same⟩⟩
    · have he : H e = some (excO A.c_NoMarble e) := he0
      refine ⟨_, rfl, e, A.c_NoMarble, _, _, false, rfl, rfl, he, T.xi_NoMarble, T.p_NoMarble_NoPlace, _, rfl, e, A.c_NoMarble, _, _, false, rfl, rfl, he, T.xi_NoMarble, T.p_NoMarble_NoSite, _, rfl, e, A.c_NoMarble, _, _, false, rfl, rfl, he, T.xi_NoMarble, T.p_NoMarble_NoExit, _, rfl, e, A.c_NoMarble, _, _, true, rfl, rfl, he, T.xi_NoMarble, kit_self, small12 (by show 4 ≤ 100; decide), fun l1 h1 => ?_⟩
      have s1 := same_new h1 (o := .lst [V.bl false, V.bl false, V.bl false, V.bl true])
      have e1 : (upd H l1 (.lst [V.bl false, V.bl false, V.bl false, V.bl true])) l1 = some (.lst [V.bl false, V.bl false, V.bl false, V.bl true]) := upd_same
      refine (show _ from ?_)
      generalize upd H l1 (.lst [V.bl false, V.bl false, V.bl false, V.bl true]) = H1 at s1 e1
      refine ⟨_, rfl, _, rfl, e, A.c_NoMarble, _, _, false, rfl, rfl, (s1 _ _ he), T.xi_NoMarble, T.p_NoMarble_TooMany, _, rfl, e, A.c_NoMarble, _, _, false, rfl, rfl, (s1 _ _ he), T.xi_NoMarble, T.p_NoMarble_NotOpen, _, rfl, e, A.c_NoMarble, _, _, false, rfl, rfl, (s1 _ _ he), T.xi_NoMarble, T.p_NoMarble_NotBare, _, rfl, e, A.c_NoMarble, _, _, false, rfl, rfl, (s1 _ _ he), T.xi_NoMarble, T.p_NoMarble_NotTree, small12 (by show 4 ≤ 100; decide), fun l2 h2 => ⟨l1, l2, _, _, rfl, rfl, same_new h2 _ _ e1, upd_same, small12 (by show 8 ≤ 100; decide), fun l3 h3 => ?_⟩⟩
      have s2 := same_upd (same_new h2 (o := .lst [V.bl false, V.bl false, V.bl false, V.bl false])) ((same_new h2 (o := .lst [V.bl false, V.bl false, V.bl false, V.bl false])).free h3) (o := .lst ([V.bl false, V.bl false, V.bl false, V.bl true] ++ [V.bl false, V.bl false, V.bl false, V.bl false]))
      have e3 : (upd (upd H1 l2 (.lst [V.bl false, V.bl false, V.bl false, V.bl false])) l3 (.lst ([V.bl false, V.bl false, V.bl false, V.bl true] ++ [V.bl false, V.bl false, V.bl false, V.bl false]))) l3 = some (.lst ([V.bl false, V.bl false, V.bl false, V.bl true] ++ [V.bl false, V.bl false, V.bl false, V.bl false])) := upd_same
      refine (show _ from ?_)
      generalize upd (upd H1 l2 (.lst [V.bl false, V.bl false, V.bl false, V.bl false])) l3 (.lst ([V.bl false, V.bl false, V.bl false, V.bl true] ++ [V.bl false, V.bl false, V.bl false, V.bl false])) = H3 at s2 e3
      exact ⟨_, rfl, _, rfl, e, A.c_NoMarble, _, _, false, rfl, rfl, (s2 _ _ (s1 _ _ he)), T.xi_NoMarble, T.p_NoMarble_TooLong, _, rfl, e, A.c_NoMarble, _, _, false, rfl, rfl, (s2 _ _ (s1 _ _ he)), T.xi_NoMarble, T.p_NoMarble_NoBoard, _, rfl, e, A.c_NoMarble, _, _, true, rfl, rfl, (s2 _ _ (s1 _ _ he)), T.xi_NoMarble, T.qt_NoMarble_ValueError, small12 (by show 3 ≤ 100; decide), fun l4 h4 => ⟨l3, l4, _, _, rfl, rfl, same_new h4 _ _ e3, upd_same, small12 (by show 11 ≤ 100; decide), fun l5 h5 => q l5 _ upd_same⟩⟩
    · have he : H e = some (excO A.c_TooMany e) := he0
      refine ⟨_, rfl, e, A.c_TooMany, _, _, false, rfl, rfl, he, T.xi_TooMany, T.p_TooMany_NoPlace, _, rfl, e, A.c_TooMany, _, _, false, rfl, rfl, he, T.xi_TooMany, T.p_TooMany_NoSite, _, rfl, e, A.c_TooMany, _, _, false, rfl, rfl, he, T.xi_TooMany, T.p_TooMany_NoExit, _, rfl, e, A.c_TooMany, _, _, false, rfl, rfl, he, T.xi_TooMany, T.p_TooMany_NoMarble, small12 (by show 4 ≤ 100; decide), fun l1 h1 => ?_⟩
      have s1 := same_new h1 (o := .lst [V.bl false, V.bl false, V.bl false, V.bl false])
      have e1 : (upd H l1 (.lst [V.bl false, V.bl false, V.bl false, V.bl false])) l1 = some (.lst [V.bl false, V.bl false, V.bl false, V.bl false]) := upd_same
      refine (show _ from ?_)
      generalize upd H l1 (.lst [V.bl false, V.bl false, V.bl false, V.bl false]) = H1 at s1 e1
      refine ⟨_, rfl, _, rfl, e, A.c_TooMany, _, _, true, rfl, rfl, (s1 _ _ he), T.xi_TooMany, kit_self, _, rfl, e, A.c_TooMany, _, _, false, rfl, rfl, (s1 _ _ he), T.xi_TooMany, T.p_TooMany_NotOpen, _, rfl, e, A.c_TooMany, _, _, false, rfl, rfl, (s1 _ _ he), T.xi_TooMany, T.p_TooMany_NotBare, _, rfl, e, A.c_TooMany, _, _, false, rfl, rfl, (s1 _ _ he), T.xi_TooMany, T.p_TooMany_NotTree, small12 (by show 4 ≤ 100; decide), fun l2 h2 => ⟨l1, l2, _, _, rfl, rfl, same_new h2 _ _ e1, upd_same, small12 (by show 8 ≤ 100; decide), fun l3 h3 => ?_⟩⟩
      have s2 := same_upd (same_new h2 (o := .lst [V.bl true, V.bl false, V.bl false, V.bl false])) ((same_new h2 (o := .lst [V.bl true, V.bl false, V.bl false, V.bl false])).free h3) (o := .lst ([V.bl false, V.bl false, V.bl false, V.bl false] ++ [V.bl true, V.bl false, V.bl false, V.bl false]))
      have e3 : (upd (upd H1 l2 (.lst [V.bl true, V.bl false, V.bl false, V.bl false])) l3 (.lst ([V.bl false, V.bl false, V.bl false, V.bl false] ++ [V.bl true, V.bl false, V.bl false, V.bl false]))) l3 = some (.lst ([V.bl false, V.bl false, V.bl false, V.bl false] ++ [V.bl true, V.bl false, V.bl false, V.bl false])) := upd_same
      refine (show _ from ?_)
      generalize upd (upd H1 l2 (.lst [V.bl true, V.bl false, V.bl false, V.bl false])) l3 (.lst ([V.bl false, V.bl false, V.bl false, V.bl false] ++ [V.bl true, V.bl false, V.bl false, V.bl false])) = H3 at s2 e3
      exact ⟨_, rfl, _, rfl, e, A.c_TooMany, _, _, false, rfl, rfl, (s2 _ _ (s1 _ _ he)), T.xi_TooMany, T.p_TooMany_TooLong, _, rfl, e, A.c_TooMany, _, _, false, rfl, rfl, (s2 _ _ (s1 _ _ he)), T.xi_TooMany, T.p_TooMany_NoBoard, _, rfl, e, A.c_TooMany, _, _, true, rfl, rfl, (s2 _ _ (s1 _ _ he)), T.xi_TooMany, T.qt_TooMany_ValueError, small12 (by show 3 ≤ 100; decide), fun l4 h4 => ⟨l3, l4, _, _, rfl, rfl, same_new h4 _ _ e3, upd_same, small12 (by show 11 ≤ 100; decide), fun l5 h5 => q l5 _ upd_same⟩⟩
    · have he : H e = some (excO A.c_NotOpen e) := he0
      refine ⟨_, rfl, e, A.c_NotOpen, _, _, false, rfl, rfl, he, T.xi_NotOpen, T.p_NotOpen_NoPlace, _, rfl, e, A.c_NotOpen, _, _, false, rfl, rfl, he, T.xi_NotOpen, T.p_NotOpen_NoSite, _, rfl, e, A.c_NotOpen, _, _, false, rfl, rfl, he, T.xi_NotOpen, T.p_NotOpen_NoExit, _, rfl, e, A.c_NotOpen, _, _, false, rfl, rfl, he, T.xi_NotOpen, T.p_NotOpen_NoMarble, small12 (by show 4 ≤ 100; decide), fun l1 h1 => ?_⟩
      have s1 := same_new h1 (o := .lst [V.bl false, V.bl false, V.bl false, V.bl false])
      have e1 : (upd H l1 (.lst [V.bl false, V.bl false, V.bl false, V.bl false])) l1 = some (.lst [V.bl false, V.bl false, V.bl false, V.bl false]) := upd_same
      refine (show _ from ?_)
      generalize upd H l1 (.lst [V.bl false, V.bl false, V.bl false, V.bl false]) = H1 at s1 e1
      refine ⟨_, rfl, _, rfl, e, A.c_NotOpen, _, _, false, rfl, rfl, (s1 _ _ he), T.xi_NotOpen, T.p_NotOpen_TooMany, _, rfl, e, A.c_NotOpen, _, _, true, rfl, rfl, (s1 _ _ he), T.xi_NotOpen, kit_self, _, rfl, e, A.c_NotOpen, _, _, false, rfl, rfl, (s1 _ _ he), T.xi_NotOpen, T.p_NotOpen_NotBare, _, rfl, e, A.c_NotOpen, _, _, false, rfl, rfl, (s1 _ _ he), T.xi_NotOpen, T.p_NotOpen_NotTree, small12 (by show 4 ≤ 100; decide), fun l2 h2 => ⟨l1, l2, _, _, rfl, rfl, same_new h2 _ _ e1, upd_same, small12 (by show 8 ≤ 100; decide), fun l3 h3 => ?_⟩⟩
      have s2 := same_upd (same_new h2 (o := .lst [V.bl false, V.bl true, V.bl false, V.bl false])) ((same_new h2 (o := .lst [V.bl false, V.bl true, V.bl false, V.bl false])).free h3) (o := .lst ([V.bl false, V.bl false, V.bl false, V.bl false] ++ [V.bl false, V.bl true, V.bl false, V.bl false]))
      have e3 : (upd (upd H1 l2 (.lst [V.bl false, V.bl true, V.bl false, V.bl false])) l3 (.lst ([V.bl false, V.bl false, V.bl false, V.bl false] ++ [V.bl false, V.bl true, V.bl false, V.bl false]))) l3 = some (.lst ([V.bl false, V.bl false, V.bl false, V.bl false] ++ [V.bl false, V.bl true, V.bl false, V.bl false])) := upd_same
      refine (show _ from ?_)
      generalize upd (upd H1 l2 (.lst [V.bl false, V.bl true, V.bl false, V.bl false])) l3 (.lst ([V.bl false, V.bl false, V.bl false, V.bl false] ++ [V.bl false, V.bl true, V.bl false, V.bl false])) = H3 at s2 e3
      exact ⟨_, rfl, _, rfl, e, A.c_NotOpen, _, _, false, rfl, rfl, (s2 _ _ (s1 _ _ he)), T.xi_NotOpen, T.p_NotOpen_TooLong, _, rfl, e, A.c_NotOpen, _, _, false, rfl, rfl, (s2 _ _ (s1 _ _ he)), T.xi_NotOpen, T.p_NotOpen_NoBoard, _, rfl, e, A.c_NotOpen, _, _, true, rfl, rfl, (s2 _ _ (s1 _ _ he)), T.xi_NotOpen, T.qt_NotOpen_ValueError, small12 (by show 3 ≤ 100; decide), fun l4 h4 => ⟨l3, l4, _, _, rfl, rfl, same_new h4 _ _ e3, upd_same, small12 (by show 11 ≤ 100; decide), fun l5 h5 => q l5 _ upd_same⟩⟩
    · have he : H e = some (excO A.c_NotBare e) := he0
      refine ⟨_, rfl, e, A.c_NotBare, _, _, false, rfl, rfl, he, T.xi_NotBare, T.p_NotBare_NoPlace, _, rfl, e, A.c_NotBare, _, _, false, rfl, rfl, he, T.xi_NotBare, T.p_NotBare_NoSite, _, rfl, e, A.c_NotBare, _, _, false, rfl, rfl, he, T.xi_NotBare, T.p_NotBare_NoExit, _, rfl, e, A.c_NotBare, _, _, false, rfl, rfl, he, T.xi_NotBare, T.p_NotBare_NoMarble, small12 (by show 4 ≤ 100; decide), fun l1 h1 => ?_⟩
      have s1 := same_new h1 (o := .lst [V.bl false, V.bl false, V.bl false, V.bl false])
      have e1 : (upd H l1 (.lst [V.bl false, V.bl false, V.bl false, V.bl false])) l1 = some (.lst [V.bl false, V.bl false, V.bl false, V.bl false]) := upd_same
      refine (show _ from ?_)
      generalize upd H l1 (.lst [V.bl false, V.bl false, V.bl false, V.bl false]) = H1 at s1 e1
      refine ⟨_, rfl, _, rfl, e, A.c_NotBare, _, _, false, rfl, rfl, (s1 _ _ he), T.xi_NotBare, T.p_NotBare_TooMany, _, rfl, e, A.c_NotBare, _, _, false, rfl, rfl, (s1 _ _ he), T.xi_NotBare, T.p_NotBare_NotOpen, _, rfl, e, A.c_NotBare, _, _, true, rfl, rfl, (s1 _ _ he), T.xi_NotBare, kit_self, _, rfl, e, A.c_NotBare, _, _, false, rfl, rfl, (s1 _ _ he), T.xi_NotBare, T.p_NotBare_NotTree, small12 (by show 4 ≤ 100; decide), fun l2 h2 => ⟨l1, l2, _, _, rfl, rfl, same_new h2 _ _ e1, upd_same, small12 (by show 8 ≤ 100; decide), fun l3 h3 => ?_⟩⟩
      have s2 := same_upd (same_new h2 (o := .lst [V.bl false, V.bl false, V.bl true, V.bl false])) ((same_new h2 (o := .lst [V.bl false, V.bl false, V.bl true, V.bl false])).free h3) (o := .lst ([V.bl false, V.bl false, V.bl false, V.bl false] ++ [V.bl false, V.bl false, V.bl true, V.bl false]))
      have e3 : (upd (upd H1 l2 (.lst [V.bl false, V.bl false, V.bl true, V.bl false])) l3 (.lst ([V.bl false, V.bl false, V.bl false, V.bl false] ++ [V.bl false, V.bl false, V.bl true, V.bl false]))) l3 = some (.lst ([V.bl false, V.bl false, V.bl false, V.bl false] ++ [V.bl false, V.bl false, V.bl true, V.bl false])) := upd_same
      refine (show _ from ?_)
      generalize upd (upd H1 l2 (.lst [V.bl false, V.bl false, V.bl true, V.bl false])) l3 (.lst ([V.bl false, V.bl false, V.bl false, V.bl false] ++ [V.bl false, V.bl false, V.bl true, V.bl false])) = H3 at s2 e3
      exact ⟨_, rfl, _, rfl, e, A.c_NotBare, _, _, false, rfl, rfl, (s2 _ _ (s1 _ _ he)), T.xi_NotBare, T.p_NotBare_TooLong, _, rfl, e, A.c_NotBare, _, _, false, rfl, rfl, (s2 _ _ (s1 _ _ he)), T.xi_NotBare, T.p_NotBare_NoBoard, _, rfl, e, A.c_NotBare, _, _, true, rfl, rfl, (s2 _ _ (s1 _ _ he)), T.xi_NotBare, T.qt_NotBare_ValueError, small12 (by show 3 ≤ 100; decide), fun l4 h4 => ⟨l3, l4, _, _, rfl, rfl, same_new h4 _ _ e3, upd_same, small12 (by show 11 ≤ 100; decide), fun l5 h5 => q l5 _ upd_same⟩⟩
    · have he : H e = some (excO A.c_NotTree e) := he0
      refine ⟨_, rfl, e, A.c_NotTree, _, _, false, rfl, rfl, he, T.xi_NotTree, T.p_NotTree_NoPlace, _, rfl, e, A.c_NotTree, _, _, false, rfl, rfl, he, T.xi_NotTree, T.p_NotTree_NoSite, _, rfl, e, A.c_NotTree, _, _, false, rfl, rfl, he, T.xi_NotTree, T.p_NotTree_NoExit, _, rfl, e, A.c_NotTree, _, _, false, rfl, rfl, he, T.xi_NotTree, T.p_NotTree_NoMarble, small12 (by show 4 ≤ 100; decide), fun l1 h1 => ?_⟩
      have s1 := same_new h1 (o := .lst [V.bl false, V.bl false, V.bl false, V.bl false])
      have e1 : (upd H l1 (.lst [V.bl false, V.bl false, V.bl false, V.bl false])) l1 = some (.lst [V.bl false, V.bl false, V.bl false, V.bl false]) := upd_same
      refine (show _ from ?_)
      generalize upd H l1 (.lst [V.bl false, V.bl false, V.bl false, V.bl false]) = H1 at s1 e1
      refine ⟨_, rfl, _, rfl, e, A.c_NotTree, _, _, false, rfl, rfl, (s1 _ _ he), T.xi_NotTree, T.p_NotTree_TooMany, _, rfl, e, A.c_NotTree, _, _, false, rfl, rfl, (s1 _ _ he), T.xi_NotTree, T.p_NotTree_NotOpen, _, rfl, e, A.c_NotTree, _, _, false, rfl, rfl, (s1 _ _ he), T.xi_NotTree, T.p_NotTree_NotBare, _, rfl, e, A.c_NotTree, _, _, true, rfl, rfl, (s1 _ _ he), T.xi_NotTree, kit_self, small12 (by show 4 ≤ 100; decide), fun l2 h2 => ⟨l1, l2, _, _, rfl, rfl, same_new h2 _ _ e1, upd_same, small12 (by show 8 ≤ 100; decide), fun l3 h3 => ?_⟩⟩
      have s2 := same_upd (same_new h2 (o := .lst [V.bl false, V.bl false, V.bl false, V.bl true])) ((same_new h2 (o := .lst [V.bl false, V.bl false, V.bl false, V.bl true])).free h3) (o := .lst ([V.bl false, V.bl false, V.bl false, V.bl false] ++ [V.bl false, V.bl false, V.bl false, V.bl true]))
      have e3 : (upd (upd H1 l2 (.lst [V.bl false, V.bl false, V.bl false, V.bl true])) l3 (.lst ([V.bl false, V.bl false, V.bl false, V.bl false] ++ [V.bl false, V.bl false, V.bl false, V.bl true]))) l3 = some (.lst ([V.bl false, V.bl false, V.bl false, V.bl false] ++ [V.bl false, V.bl false, V.bl false, V.bl true])) := upd_same
      refine (show _ from ?_)
      generalize upd (upd H1 l2 (.lst [V.bl false, V.bl false, V.bl false, V.bl true])) l3 (.lst ([V.bl false, V.bl false, V.bl false, V.bl false] ++ [V.bl false, V.bl false, V.bl false, V.bl true])) = H3 at s2 e3
      exact ⟨_, rfl, _, rfl, e, A.c_NotTree, _, _, false, rfl, rfl, (s2 _ _ (s1 _ _ he)), T.xi_NotTree, T.p_NotTree_TooLong, _, rfl, e, A.c_NotTree, _, _, false, rfl, rfl, (s2 _ _ (s1 _ _ he)), T.xi_NotTree, T.p_NotTree_NoBoard, _, rfl, e, A.c_NotTree, _, _, true, rfl, rfl, (s2 _ _ (s1 _ _ he)), T.xi_NotTree, T.qt_NotTree_ValueError, small12 (by show 3 ≤ 100; decide), fun l4 h4 => ⟨l3, l4, _, _, rfl, rfl, same_new h4 _ _ e3, upd_same, small12 (by show 11 ≤ 100; decide), fun l5 h5 => q l5 _ upd_same⟩⟩
    · have he : H e = some (excO A.c_TooLong e) := he0
      refine ⟨_, rfl, e, A.c_TooLong, _, _, false, rfl, rfl, he, T.xi_TooLong, T.p_TooLong_NoPlace, _, rfl, e, A.c_TooLong, _, _, false, rfl, rfl, he, T.xi_TooLong, T.p_TooLong_NoSite, _, rfl, e, A.c_TooLong, _, _, false, rfl, rfl, he, T.xi_TooLong, T.p_TooLong_NoExit, _, rfl, e, A.c_TooLong, _, _, false, rfl, rfl, he, T.xi_TooLong, T.p_TooLong_NoMarble, small12 (by show 4 ≤ 100; decide), fun l1 h1 => ?_⟩
      have s1 := same_new h1 (o := .lst [V.bl false, V.bl false, V.bl false, V.bl false])
      have e1 : (upd H l1 (.lst [V.bl false, V.bl false, V.bl false, V.bl false])) l1 = some (.lst [V.bl false, V.bl false, V.bl false, V.bl false]) := upd_same
      refine (show _ from ?_)
      generalize upd H l1 (.lst [V.bl false, V.bl false, V.bl false, V.bl false]) = H1 at s1 e1
      refine ⟨_, rfl, _, rfl, e, A.c_TooLong, _, _, false, rfl, rfl, (s1 _ _ he), T.xi_TooLong, T.p_TooLong_TooMany, _, rfl, e, A.c_TooLong, _, _, false, rfl, rfl, (s1 _ _ he), T.xi_TooLong, T.p_TooLong_NotOpen, _, rfl, e, A.c_TooLong, _, _, false, rfl, rfl, (s1 _ _ he), T.xi_TooLong, T.p_TooLong_NotBare, _, rfl, e, A.c_TooLong, _, _, false, rfl, rfl, (s1 _ _ he), T.xi_TooLong, T.p_TooLong_NotTree, small12 (by show 4 ≤ 100; decide), fun l2 h2 => ⟨l1, l2, _, _, rfl, rfl, same_new h2 _ _ e1, upd_same, small12 (by show 8 ≤ 100; decide), fun l3 h3 => ?_⟩⟩
      have s2 := same_upd (same_new h2 (o := .lst [V.bl false, V.bl false, V.bl false, V.bl false])) ((same_new h2 (o := .lst [V.bl false, V.bl false, V.bl false, V.bl false])).free h3) (o := .lst ([V.bl false, V.bl false, V.bl false, V.bl false] ++ [V.bl false, V.bl false, V.bl false, V.bl false]))
      have e3 : (upd (upd H1 l2 (.lst [V.bl false, V.bl false, V.bl false, V.bl false])) l3 (.lst ([V.bl false, V.bl false, V.bl false, V.bl false] ++ [V.bl false, V.bl false, V.bl false, V.bl false]))) l3 = some (.lst ([V.bl false, V.bl false, V.bl false, V.bl false] ++ [V.bl false, V.bl false, V.bl false, V.bl false])) := upd_same
      refine (show _ from ?_)
      generalize upd (upd H1 l2 (.lst [V.bl false, V.bl false, V.bl false, V.bl false])) l3 (.lst ([V.bl false, V.bl false, V.bl false, V.bl false] ++ [V.bl false, V.bl false, V.bl false, V.bl false])) = H3 at s2 e3
      exact ⟨_, rfl, _, rfl, e, A.c_TooLong, _, _, true, rfl, rfl, (s2 _ _ (s1 _ _ he)), T.xi_TooLong, kit_self, _, rfl, e, A.c_TooLong, _, _, false, rfl, rfl, (s2 _ _ (s1 _ _ he)), T.xi_TooLong, T.p_TooLong_NoBoard, _, rfl, e, A.c_TooLong, _, _, true, rfl, rfl, (s2 _ _ (s1 _ _ he)), T.xi_TooLong, T.qt_TooLong_ValueError, small12 (by show 3 ≤ 100; decide), fun l4 h4 => ⟨l3, l4, _, _, rfl, rfl, same_new h4 _ _ e3, upd_same, small12 (by show 11 ≤ 100; decide), fun l5 h5 => q l5 _ upd_same⟩⟩
    · have he : H e = some (excO A.c_NoBoard e) := he0
      refine ⟨_, rfl, e, A.c_NoBoard, _, _, false, rfl, rfl, he, T.xi_NoBoard, T.p_NoBoard_NoPlace, _, rfl, e, A.c_NoBoard, _, _, false, rfl, rfl, he, T.xi_NoBoard, T.p_NoBoard_NoSite, _, rfl, e, A.c_NoBoard, _, _, false, rfl, rfl, he, T.xi_NoBoard, T.p_NoBoard_NoExit, _, rfl, e, A.c_NoBoard, _, _, false, rfl, rfl, he, T.xi_NoBoard, T.p_NoBoard_NoMarble, small12 (by show 4 ≤ 100; decide), fun l1 h1 => ?_⟩
      have s1 := same_new h1 (o := .lst [V.bl false, V.bl false, V.bl false, V.bl false])
      have e1 : (upd H l1 (.lst [V.bl false, V.bl false, V.bl false, V.bl false])) l1 = some (.lst [V.bl false, V.bl false, V.bl false, V.bl false]) := upd_same
      refine (show _ from ?_)
      generalize upd H l1 (.lst [V.bl false, V.bl false, V.bl false, V.bl false]) = H1 at s1 e1
      refine ⟨_, rfl, _, rfl, e, A.c_NoBoard, _, _, false, rfl, rfl, (s1 _ _ he), T.xi_NoBoard, T.p_NoBoard_TooMany, _, rfl, e, A.c_NoBoard, _, _, false, rfl, rfl, (s1 _ _ he), T.xi_NoBoard, T.p_NoBoard_NotOpen, _, rfl, e, A.c_NoBoard, _, _, false, rfl, rfl, (s1 _ _ he), T.xi_NoBoard, T.p_NoBoard_NotBare, _, rfl, e, A.c_NoBoard, _, _, false, rfl, rfl, (s1 _ _ he), T.xi_NoBoard, T.p_NoBoard_NotTree, small12 (by show 4 ≤ 100; decide), fun l2 h2 => ⟨l1, l2, _, _, rfl, rfl, same_new h2 _ _ e1, upd_same, small12 (by show 8 ≤ 100; decide), fun l3 h3 => ?_⟩⟩
      have s2 := same_upd (same_new h2 (o := .lst [V.bl false, V.bl false, V.bl false, V.bl false])) ((same_new h2 (o := .lst [V.bl false, V.bl false, V.bl false, V.bl false])).free h3) (o := .lst ([V.bl false, V.bl false, V.bl false, V.bl false] ++ [V.bl false, V.bl false, V.bl false, V.bl false]))
      have e3 : (upd (upd H1 l2 (.lst [V.bl false, V.bl false, V.bl false, V.bl false])) l3 (.lst ([V.bl false, V.bl false, V.bl false, V.bl false] ++ [V.bl false, V.bl false, V.bl false, V.bl false]))) l3 = some (.lst ([V.bl false, V.bl false, V.bl false, V.bl false] ++ [V.bl false, V.bl false, V.bl false, V.bl false])) := upd_same
      refine (show _ from ?_)
      generalize upd (upd H1 l2 (.lst [V.bl false, V.bl false, V.bl false, V.bl false])) l3 (.lst ([V.bl false, V.bl false, V.bl false, V.bl false] ++ [V.bl false, V.bl false, V.bl false, V.bl false])) = H3 at s2 e3
      exact ⟨_, rfl, _, rfl, e, A.c_NoBoard, _, _, false, rfl, rfl, (s2 _ _ (s1 _ _ he)), T.xi_NoBoard, T.p_NoBoard_TooLong, _, rfl, e, A.c_NoBoard, _, _, true, rfl, rfl, (s2 _ _ (s1 _ _ he)), T.xi_NoBoard, kit_self, _, rfl, e, A.c_NoBoard, _, _, true, rfl, rfl, (s2 _ _ (s1 _ _ he)), T.xi_NoBoard, T.qt_NoBoard_ValueError, small12 (by show 3 ≤ 100; decide), fun l4 h4 => ⟨l3, l4, _, _, rfl, rfl, same_new h4 _ _ e3, upd_same, small12 (by show 11 ≤ 100; decide), fun l5 h5 => q l5 _ upd_same⟩⟩
theorem sc_deed : FnScope ["board", "way", "at", "size"] ["board", "way", "at", "size"] (defScope s_deed) := ⟨rfl, rfl, rfl, by decide +kernel, rfl, by decide +kernel, by decide +kernel⟩
theorem ok_deed (T : Txt K mg A) (G_i_Board : FnOk P w K mg base (CX1 P w) 3 A.f_Binit A.fd_Binit ["self", "rows"] (spInitX A.C A.c_NoSite A.c_NoExit)) (G_load : FnOk P w K mg base (CX1 P w) 2 A.f_Bload A.fd_Bload ["self", "at", "many"] (spLoad A.C A.c_NoSite A.c_TooMany)) (G_turn_to : FnOk P w K mg base (CX1 P w) 2 A.f_Bturn_to A.fd_Bturn_to ["self", "at", "place"] (spTurn A.C A.c_NoSite A.c_NoPlace)) (G_step : FnOk P w K mg base (CX1 P w) 2 A.f_step A.fd_step ["board", "at"] (spStep A.C A.c_NoSite A.c_NoMarble)) (G_run : FnOk P w K mg base (CX1 P w) 6 A.f_run A.fd_run ["board", "most"] (spRun A.C A.c_NotOpen A.c_TooLong)) (G_run_back : FnOk P w K mg base (CX1 P w) 6 A.f_run_back A.fd_run_back ["board", "at", "most"] (spBack A.C A.c_NoSite A.c_NotOpen A.c_NotBare A.c_NotTree A.c_TooLong)) (G_read : FnOk P w K mg base (CX1 P w) 6 A.f_read A.fd_read ["text"] (spRd28 A.c_NoBoard)) : FnOk P w K mg base (CX1 P w) 9 A.f_deed A.fd_deed ["board", "way", "at", "size"] (spDeed A) := by
  refine T.F_deed.okX sc_deed (fun vs H Q E h => ?_) (fun cdv A' outer s H vs Q E hr h => ?_)
  · obtain ⟨p, dx, aR, as, aT, aL, aS, rows, w', at0, sz, rfl, _⟩ := h
    rfl
  · obtain ⟨p, dx, aR, as, aT, aL, aS, rows, w', at0, sz, rfl, B, PT, h0, h1, hsz, hw, q⟩ := h
    refine ⟨_, (pss_one (ps_if (pt_cmpR op_eq (pv 1) pe_int (nomark _))
        (pss_one (ps_expr (pe_meth (pv 0) T.cl_Board T.mt_turn_to G_turn_to (hr.mono (by decide)) T.bm_turn_to .nil passX (pa_cons (pv 2) (pa_cons (pv 3) pa_nil)))))
        (pss_one (ps_if (pt_cmpR op_eq (pv 1) pe_int (nomark _))
          (pss_one (ps_expr (pe_meth (pv 0) T.cl_Board T.mt_turn_to G_turn_to (hr.mono (by decide)) T.bm_turn_to .nil passX (pa_cons (pe_callB (call_lenK (K := K) rfl) (by rfl) T.n_len PySem.boot_len (pa_cons (pe_fldK (K := K) rfl (pv 0) rfl) pa_nil)) (pa_cons pe_int pa_nil)))))
          (pss_one (ps_if (pt_cmpR op_eq (pv 1) pe_int (nomark _))
            (pss_one (ps_expr (pe_make T.mk_Board G_i_Board (hr.mono (by decide)) (by rfl) T.m_Board T.bi_Board .nil passX (pa_cons (pe_lst (pa_cons (pe_lst (pa_cons pe_int (pa_cons (pe_op op_add pe_int (pv 2)) pa_nil))) pa_nil)) pa_nil))))
            (pss_one (ps_if (pt_cmpR op_eq (pv 1) pe_int (nomark _))
              (pss_one (ps_expr (pe_call G_step (hr.mono (by decide)) (by rfl) T.m_step T.k_step T.b_step .nil passX (pa_cons (pv 0) (pa_cons (pv 2) pa_nil)))))
              (pss_one (ps_if (pt_cmpR op_eq (pv 1) pe_int (nomark _))
                (pss_one (ps_expr (pe_meth (pv 0) T.cl_Board T.mt_load G_load (hr.mono (by decide)) T.bm_load .nil passX (pa_cons (pv 2) (pa_cons pe_int pa_nil)))))
                (pss_one (ps_if (pt_cmpR op_eq (pv 1) pe_int (nomark _))
                  (pss_one (ps_expr (pe_call G_run (hr.mono (by decide)) (by rfl) T.m_run T.k_run T.b_run .nil passX (pa_cons (pe_make T.mk_Board G_i_Board (hr.mono (by decide)) (by rfl) T.m_Board T.bi_Board .nil passX (pa_cons (pe_lst (pa_cons (pe_lst (pa_cons pe_int pa_nil)) (pa_cons (pe_lst (pa_cons pe_int (pa_cons pe_int pa_nil))) pa_nil))) pa_nil)) (pa_cons pe_int pa_nil)))))
                  (pss_one (ps_if (pt_cmpR op_eq (pv 1) pe_int (nomark _))
                    (pss_cons (ps_expr (pe_meth (pv 0) T.cl_Board T.mt_load G_load (hr.mono (by decide)) T.bm_load .nil passX (pa_cons (pv 2) (pa_cons pe_int pa_nil))))
                    (pss_one (ps_expr (pe_call G_run_back (hr.mono (by decide)) (by rfl) T.m_run_back T.k_run_back T.b_run_back .nil passX (pa_cons (pv 0) (pa_cons (pv 2) (pa_cons pe_int pa_nil)))))))
                    (pss_one (ps_if (pt_cmpR op_eq (pv 1) pe_int (nomark _))
                      (pss_one (ps_expr (pe_call G_run_back (hr.mono (by decide)) (by rfl) T.m_run_back T.k_run_back T.b_run_back .nil passX (pa_cons (pe_make T.mk_Board G_i_Board (hr.mono (by decide)) (by rfl) T.m_Board T.bi_Board .nil passX (pa_cons (pe_lst (pa_cons (pe_lst (pa_cons (pe_un un_neg pe_int) (pa_cons pe_int pa_nil))) pa_nil)) pa_nil)) (pa_cons pe_int (pa_cons pe_int pa_nil))))))
                      (pss_one (ps_if (pt_cmpR op_eq (pv 1) pe_int (nomark _))
                        (pss_one (ps_expr (pe_call G_run_back (hr.mono (by decide)) (by rfl) T.m_run_back T.k_run_back T.b_run_back .nil passX (pa_cons (pv 0) (pa_cons (pv 2) (pa_cons pe_int pa_nil))))))
                        (pss_one (ps_expr (pe_call G_read (hr.mono (by decide)) (by rfl) T.m_read T.k_read T.b_read .nil passX (pa_cons (pe_op op_add_str pe_str (pe_callTy call_str_int (by rfl) T.n_str PyProof.Rows.Boot.«str» (pa_cons (pv 2) pa_nil))) pa_nil)))))))))))))))))))))), ?_⟩
    have W := PT.wf
    have O := newB_O W
    have h12 := PT.2.1
    have hT : TurnsOk rows (List.replicate rows.length 0) := turns0 W
    rcases (show w' = 0 ∨ w' = 1 ∨ w' = 2 ∨ w' = 3 ∨ w' = 4 ∨ w' = 5 ∨ w' = 6 ∨ w' = 7 ∨ w' = 8 ∨ w' = 9 by omega) with rfl | rfl | rfl | rfl | rfl | rfl | rfl | rfl | rfl | rfl
    · have q' : ∀ c H', E (.ref A.c_NoPlace) c H' := q
      have h8 := PT.2.2 _ (PT.at (i := at0.toNat) (by omega))
      refine ⟨_, rfl, rfl, _, rfl, ?_⟩
      refine ite2 (fun _ => ?_) (fun h => absurd (by decide +kernel) h)
      exact ⟨_, rfl, p, dx, _, rfl, B.ob, (by rfl), _, rfl, _, rfl, p, dx, aR, as, aT, aL, aS, newB rows, at0, sz, rfl, B, O.T.1, by omega, by omega, by omega, by omega, fun n => absurd ⟨h0, h1⟩ n, fun _ _ => q' _ _, fun _ z => absurd z.2 (by show ¬ sz < ((rows.getD at0.toNat []).length : Int); omega)⟩
    · have q' : ∀ c H', E (.ref A.c_NoSite) c H' := q
      refine ⟨_, rfl, rfl, _, rfl, ?_⟩
      refine ite2 (fun h => absurd h (by decide +kernel)) (fun _ => ?_)
      refine ⟨_, rfl, rfl, _, rfl, ?_⟩
      refine ite2 (fun _ => ?_) (fun h => absurd (by decide +kernel) h)
      have hl : (as.map V.ref).length = rows.length := B.mat.reflen
      refine ⟨_, rfl, p, dx, _, rfl, B.ob, (by rfl), _, rfl, p, A.C, dx, _, _, rfl, B.ob, T.cl_Board, T.na_rows, bf_rows _ _ _ _ _, _, _, rfl, .inl B.mat.sq, p, dx, aR, as, aT, aL, aS, newB rows, _, 0, rfl, B, O.T.1, by omega, by omega, by decide, by decide, fun _ => q' _ _, fun n _ => absurd n.2 (by show ¬ ((as.map V.ref).length : Int) < (rows.length : Int); omega), fun n _ => absurd n.2 (by show ¬ ((as.map V.ref).length : Int) < (rows.length : Int); omega)⟩
    · have q' : ∀ c H', E (.ref A.c_NoExit) c H' := q
      refine ⟨_, rfl, rfl, _, rfl, ?_⟩
      refine ite2 (fun h => absurd h (by decide +kernel)) (fun _ => ?_)
      refine ⟨_, rfl, rfl, _, rfl, ?_⟩
      refine ite2 (fun h => absurd h (by decide +kernel)) (fun _ => ?_)
      refine ⟨_, rfl, rfl, _, rfl, ?_⟩
      refine ite2 (fun _ => ?_) (fun h => absurd (by decide +kernel) h)
      refine ⟨_, rfl, _, _, rfl, rfl, small12 (by show 2 ≤ 100; decide), fun l1 g1 => ⟨small12 (by show 1 ≤ 100; decide), fun l2 g2 => ?_⟩⟩
      have M : Mat (upd (upd H l1 (.lst [V.int 0, V.int (1 + at0)])) l2 (.lst [V.ref l1])) l2 [l1] [[0, 1 + at0]] := mat1 g1 g2
      intro p' dx' hp hdx hne
      exact ⟨p', dx', l2, [l1], [[0, 1 + at0]], rfl, upd_same, M.same (same_upd (same_new hdx) hp), fun r hr' e he => (by simp at hr'; subst hr'; simp at he; rcases he with rfl | rfl <;> omega), fun W' => absurd (W'.2.2 _ List.mem_cons_self).2.2 (fun z => by have := z (1 + at0) (by simp); simp at this; omega), fun z => absurd ⟨by simp, by simp⟩ z, fun _ _ => q' _ _⟩
    · have q' : ∀ c H', E (.ref A.c_NoMarble) c H' := q
      refine ⟨_, rfl, rfl, _, rfl, ?_⟩
      refine ite2 (fun h => absurd h (by decide +kernel)) (fun _ => ?_)
      refine ⟨_, rfl, rfl, _, rfl, ?_⟩
      refine ite2 (fun h => absurd h (by decide +kernel)) (fun _ => ?_)
      refine ⟨_, rfl, rfl, _, rfl, ?_⟩
      refine ite2 (fun h => absurd h (by decide +kernel)) (fun _ => ?_)
      refine ⟨_, rfl, rfl, _, rfl, ?_⟩
      refine ite2 (fun _ => ?_) (fun h => absurd (by decide +kernel) h)
      exact ⟨_, rfl, _, rfl, p, dx, aR, as, aT, aL, aS, newB rows, at0, rfl, B, O, by omega, by omega, fun n => absurd ⟨h0, h1⟩ n, fun _ _ => q' _ _, fun _ z => absurd z (by show ¬ 1 ≤ (List.replicate rows.length (0 : Int)).getD at0.toNat 0; rw [rep_get]; decide)⟩
    · have q' : ∀ c H', E (.ref A.c_TooMany) c H' := q
      refine ⟨_, rfl, rfl, _, rfl, ?_⟩
      refine ite2 (fun h => absurd h (by decide +kernel)) (fun _ => ?_)
      refine ⟨_, rfl, rfl, _, rfl, ?_⟩
      refine ite2 (fun h => absurd h (by decide +kernel)) (fun _ => ?_)
      refine ⟨_, rfl, rfl, _, rfl, ?_⟩
      refine ite2 (fun h => absurd h (by decide +kernel)) (fun _ => ?_)
      refine ⟨_, rfl, rfl, _, rfl, ?_⟩
      refine ite2 (fun h => absurd h (by decide +kernel)) (fun _ => ?_)
      refine ⟨_, rfl, rfl, _, rfl, ?_⟩
      refine ite2 (fun _ => ?_) (fun h => absurd (by decide +kernel) h)
      exact ⟨_, rfl, p, dx, _, rfl, B.ob, (by rfl), _, rfl, p, dx, aR, as, aT, aL, aS, newB rows, at0, 401, rfl, B, O.L, by omega, by omega, fun n => absurd ⟨h0, h1⟩ n, fun _ _ => q' _ _, fun _ z => absurd z (by show ¬ (List.replicate rows.length (0 : Int)).sum + 401 ≤ 400; rw [rep_sum0]; decide)⟩
    · have q' : ∀ c H', E (.ref A.c_NotOpen) c H' := q
      refine ⟨_, rfl, rfl, _, rfl, ?_⟩
      refine ite2 (fun h => absurd h (by decide +kernel)) (fun _ => ?_)
      refine ⟨_, rfl, rfl, _, rfl, ?_⟩
      refine ite2 (fun h => absurd h (by decide +kernel)) (fun _ => ?_)
      refine ⟨_, rfl, rfl, _, rfl, ?_⟩
      refine ite2 (fun h => absurd h (by decide +kernel)) (fun _ => ?_)
      refine ⟨_, rfl, rfl, _, rfl, ?_⟩
      refine ite2 (fun h => absurd h (by decide +kernel)) (fun _ => ?_)
      refine ⟨_, rfl, rfl, _, rfl, ?_⟩
      refine ite2 (fun h => absurd h (by decide +kernel)) (fun _ => ?_)
      refine ⟨_, rfl, rfl, _, rfl, ?_⟩
      refine ite2 (fun _ => ?_) (fun h => absurd (by decide +kernel) h)
      refine ⟨small12 (by show 1 ≤ 100; decide), fun l1 g1 => ⟨small12 (by show 2 ≤ 100; decide), fun l2 g2 => ⟨small12 (by show 2 ≤ 100; decide), fun l3 g3 => ?_⟩⟩⟩
      have M : Mat (upd (upd (upd H l1 (.lst [V.int 0])) l2 (.lst [V.int 1, V.int 0])) l3 (.lst [V.ref l1, V.ref l2])) l3 [l1, l2] [[0], [1, 0]] := mat2 g1 g2 g3
      have Wd : Wf [[0], [1, 0]] := by unfold Wf RowOk; decide
      intro p' dx' hp hdx hne
      refine ⟨p', dx', l3, [l1, l2], [[0], [1, 0]], rfl, upd_same, M.same (same_upd (same_new hdx) hp), (by unfold Small; decide), fun _ aR' as' aT' aL' aS' H4 B4 kp fr => ⟨rfl, ?_⟩, fun z => absurd ⟨by decide, by decide⟩ z, fun _ z => absurd Wd z⟩
      exact ⟨p', dx', aR', as', aT', aL', aS', _, 9, rfl, B4, newB_O Wd, by decide, by decide, fun _ H' _ => q' _ _, fun z => absurd z (by show ¬ (reachL [[0], [1, 0]]).all id = true; decide)⟩
    · have q' : ∀ c H', E (.ref A.c_NotBare) c H' := q
      refine ⟨_, rfl, rfl, _, rfl, ?_⟩
      refine ite2 (fun h => absurd h (by decide +kernel)) (fun _ => ?_)
      refine ⟨_, rfl, rfl, _, rfl, ?_⟩
      refine ite2 (fun h => absurd h (by decide +kernel)) (fun _ => ?_)
      refine ⟨_, rfl, rfl, _, rfl, ?_⟩
      refine ite2 (fun h => absurd h (by decide +kernel)) (fun _ => ?_)
      refine ⟨_, rfl, rfl, _, rfl, ?_⟩
      refine ite2 (fun h => absurd h (by decide +kernel)) (fun _ => ?_)
      refine ⟨_, rfl, rfl, _, rfl, ?_⟩
      refine ite2 (fun h => absurd h (by decide +kernel)) (fun _ => ?_)
      refine ⟨_, rfl, rfl, _, rfl, ?_⟩
      refine ite2 (fun h => absurd h (by decide +kernel)) (fun _ => ?_)
      refine ⟨_, rfl, rfl, _, rfl, ?_⟩
      refine ite2 (fun _ => ?_) (fun h => absurd (by decide +kernel) h)
      refine ⟨_, rfl, p, dx, _, rfl, B.ob, (by rfl), _, rfl, p, dx, aR, as, aT, aL, aS, newB rows, at0, 1, rfl, B, O.L, by omega, by omega, fun n => absurd ⟨h0, h1⟩ n, fun _ z => absurd z (by show ¬ 400 < (List.replicate rows.length (0 : Int)).sum + 1; rw [rep_sum0]; decide), fun _ _ => ?_⟩
      have B2 := B.setL ((newB rows).loads.set at0.toNat ((newB rows).loads.getD at0.toNat 0 + 1))
      have hl1 : (newB rows).loads.getD at0.toNat 0 = 0 := rep_get _ _
      have hll : (newB rows).loads.length = rows.length := by simp [newB]
      have O2 : BrdOk { newB rows with loads := (newB rows).loads.set at0.toNat ((newB rows).loads.getD at0.toNat 0 + 1) } := by
        refine ⟨W, hT, (by show ((newB rows).loads.set _ _).length = _; rw [List.length_set]; exact hll), O.S, fun i => ?_⟩
        show 0 ≤ ((newB rows).loads.set at0.toNat ((newB rows).loads.getD at0.toNat 0 + 1)).getD i 0
        rw [List.getD_eq_getElem?_getD, List.getElem?_set]
        split
        · split
          · rw [hl1]; decide
          · decide
        · have := O.P i
          rw [List.getD_eq_getElem?_getD] at this
          exact this
      have hlad : ladenL ((newB rows).loads.set at0.toNat ((newB rows).loads.getD at0.toNat 0 + 1)) ≠ [] := by rw [hl1]; exact laden_one (by rw [hll]; omega)
      exact ⟨_, rfl, _, rfl, p, dx, aR, as, aT, aL, aS, _, at0, 9, rfl, B2, O2, fun _ => PT.tame, by omega, by omega, by decide, by decide, fun n => absurd ⟨h0, h1⟩ n, fun _ z => absurd (all_open PT.op) (by rw [show (reachL rows).all id = false from z]; decide), fun _ _ _ H' _ => q' _ _, fun _ _ z => absurd z hlad, fun _ _ z => absurd z hlad, fun _ _ z => absurd z hlad⟩
    · have q' : ∀ c H', E (.ref A.c_NotTree) c H' := q
      refine ⟨_, rfl, rfl, _, rfl, ?_⟩
      refine ite2 (fun h => absurd h (by decide +kernel)) (fun _ => ?_)
      refine ⟨_, rfl, rfl, _, rfl, ?_⟩
      refine ite2 (fun h => absurd h (by decide +kernel)) (fun _ => ?_)
      refine ⟨_, rfl, rfl, _, rfl, ?_⟩
      refine ite2 (fun h => absurd h (by decide +kernel)) (fun _ => ?_)
      refine ⟨_, rfl, rfl, _, rfl, ?_⟩
      refine ite2 (fun h => absurd h (by decide +kernel)) (fun _ => ?_)
      refine ⟨_, rfl, rfl, _, rfl, ?_⟩
      refine ite2 (fun h => absurd h (by decide +kernel)) (fun _ => ?_)
      refine ⟨_, rfl, rfl, _, rfl, ?_⟩
      refine ite2 (fun h => absurd h (by decide +kernel)) (fun _ => ?_)
      refine ⟨_, rfl, rfl, _, rfl, ?_⟩
      refine ite2 (fun h => absurd h (by decide +kernel)) (fun _ => ?_)
      refine ⟨_, rfl, rfl, _, rfl, ?_⟩
      refine ite2 (fun _ => ?_) (fun h => absurd (by decide +kernel) h)
      refine ⟨_, rfl, small12 (by show 2 ≤ 100; decide), fun l1 g1 => ⟨small12 (by show 1 ≤ 100; decide), fun l2 g2 => ?_⟩⟩
      have M : Mat (upd (upd H l1 (.lst [V.int (-1), V.int 0])) l2 (.lst [V.ref l1])) l2 [l1] [[-1, 0]] := mat1 (x := -1) (y := 0) g1 g2
      have Wd : Wf [[-1, 0]] := by unfold Wf RowOk; decide
      intro p' dx' hp hdx hne
      refine ⟨p', dx', l2, [l1], [[-1, 0]], rfl, upd_same, M.same (same_upd (same_new hdx) hp), (by unfold Small; decide), fun _ aR' as' aT' aL' aS' H4 B4 kp fr => ⟨rfl, ?_⟩, fun z => absurd ⟨by decide, by decide⟩ z, fun _ z => absurd Wd z⟩
      have hop : (reachL [[-1, 0]]).all id = true := by decide
      have hnt : treeB [[-1, 0]] [0] = false := by decide
      exact ⟨p', dx', aR', as', aT', aL', aS', _, 0, 9, rfl, B4, newB_O Wd, fun _ => tame_open Wd (by decide) (by decide) (by decide), by decide, by decide, by decide, by decide, fun n => absurd ⟨by decide, by decide⟩ n, fun _ z => absurd hop (by rw [show (reachL [[-1, 0]]).all id = false from z]; decide), fun _ _ z => absurd (newB_bare _) z, fun _ _ _ _ H' _ => q' _ _, fun _ _ _ z => absurd hnt (by rw [show treeB [[-1, 0]] [0] = true from z]; decide), fun _ _ _ z => absurd hnt (by rw [show treeB [[-1, 0]] [0] = true from z]; decide)⟩
    · have q' : ∀ c H', E (.ref A.c_TooLong) c H' := q
      refine ⟨_, rfl, rfl, _, rfl, ?_⟩
      refine ite2 (fun h => absurd h (by decide +kernel)) (fun _ => ?_)
      refine ⟨_, rfl, rfl, _, rfl, ?_⟩
      refine ite2 (fun h => absurd h (by decide +kernel)) (fun _ => ?_)
      refine ⟨_, rfl, rfl, _, rfl, ?_⟩
      refine ite2 (fun h => absurd h (by decide +kernel)) (fun _ => ?_)
      refine ⟨_, rfl, rfl, _, rfl, ?_⟩
      refine ite2 (fun h => absurd h (by decide +kernel)) (fun _ => ?_)
      refine ⟨_, rfl, rfl, _, rfl, ?_⟩
      refine ite2 (fun h => absurd h (by decide +kernel)) (fun _ => ?_)
      refine ⟨_, rfl, rfl, _, rfl, ?_⟩
      refine ite2 (fun h => absurd h (by decide +kernel)) (fun _ => ?_)
      refine ⟨_, rfl, rfl, _, rfl, ?_⟩
      refine ite2 (fun h => absurd h (by decide +kernel)) (fun _ => ?_)
      refine ⟨_, rfl, rfl, _, rfl, ?_⟩
      refine ite2 (fun h => absurd h (by decide +kernel)) (fun _ => ?_)
      refine ⟨_, rfl, rfl, _, rfl, ?_⟩
      refine ite2 (fun _ => ?_) (fun h => absurd (by decide +kernel) h)
      have htr := PT.tree hT
      refine ⟨_, rfl, _, rfl, p, dx, aR, as, aT, aL, aS, _, at0, 0, rfl, B, O, fun _ => PT.tame, by omega, by omega, by decide, by decide, fun n => absurd ⟨h0, h1⟩ n, fun _ z => absurd (all_open PT.op) (by rw [show (reachL rows).all id = false from z]; decide), fun _ _ z => absurd (newB_bare _) z, fun _ _ _ z => absurd htr (by rw [show treeB rows (List.replicate rows.length 0) = false from z]; decide), fun _ _ _ _ k T' x _ _ H' _ => q' _ _, fun _ _ _ _ N m T' BN _ _ _ _ hN => ?_⟩
      exfalso
      obtain rfl : N = 0 := by omega
      cases BN
      omega
    · have q' : ∀ c H', E (.ref A.c_NoBoard) c H' := q
      refine ⟨_, rfl, rfl, _, rfl, ?_⟩
      refine ite2 (fun h => absurd h (by decide +kernel)) (fun _ => ?_)
      refine ⟨_, rfl, rfl, _, rfl, ?_⟩
      refine ite2 (fun h => absurd h (by decide +kernel)) (fun _ => ?_)
      refine ⟨_, rfl, rfl, _, rfl, ?_⟩
      refine ite2 (fun h => absurd h (by decide +kernel)) (fun _ => ?_)
      refine ⟨_, rfl, rfl, _, rfl, ?_⟩
      refine ite2 (fun h => absurd h (by decide +kernel)) (fun _ => ?_)
      refine ⟨_, rfl, rfl, _, rfl, ?_⟩
      refine ite2 (fun h => absurd h (by decide +kernel)) (fun _ => ?_)
      refine ⟨_, rfl, rfl, _, rfl, ?_⟩
      refine ite2 (fun h => absurd h (by decide +kernel)) (fun _ => ?_)
      refine ⟨_, rfl, rfl, _, rfl, ?_⟩
      refine ite2 (fun h => absurd h (by decide +kernel)) (fun _ => ?_)
      refine ⟨_, rfl, rfl, _, rfl, ?_⟩
      refine ite2 (fun h => absurd h (by decide +kernel)) (fun _ => ?_)
      refine ⟨_, rfl, rfl, _, rfl, ?_⟩
      refine ite2 (fun h => absurd h (by decide +kernel)) (fun _ => ?_)
      exact ⟨_, rfl, _, rfl, (sm_of (by omega) (by omega)).log, _, _, rfl, rfl, size_of (by have := numS_len (i := at0) (sm_of (by omega) (by omega)); have e6 : (Str.ofString "board ").length = 6 := (by decide +kernel); show _ + (numS at0).length ≤ _; omega), at0, congrArg (fun x => [V.str x]) (head_of at0), nu_of h0 (by omega), fun e H' => q' _ _⟩
theorem sc_law : FnScope ["script", "rows", "board", "at", "way", "found", "e"] ["script"] (defScope s_law) := ⟨rfl, rfl, rfl, by decide +kernel, rfl, by decide +kernel, by decide +kernel⟩
theorem ok_law (T : Txt K mg A) (G_drawn : FnOk P w K mg base CX0 1 A.f_drawn A.fd_drawn ["script", "k", "many"] (spDrawn K)) (G_i_Board : FnOk P w K mg base CX0 3 A.f_Binit A.fd_Binit ["self", "rows"] (spInit A.C)) (G_deed : FnOk P w K mg base (CX1 P w) 9 A.f_deed A.fd_deed ["board", "way", "at", "size"] (spDeed A)) (GH_marks : FnH P w K mg base A.f_marks A.fd_marks ["e"] (spMarks A)) : FnOk P w K mg base CX0 10 A.f_law A.fd_law ["script"] (spLaw K) := by
  refine T.F_law.ok sc_law (fun vs H Q E h => ?_) (fun cdv A' outer s H vs Q E hr h => ?_)
  · obtain ⟨a, ns, rfl, _⟩ := h
    rfl
  · obtain ⟨a, ns, rfl, hS, hlen, q⟩ := h
    have hul : _ + (0 + 1) < cLine := Nat.lt_of_le_of_lt (Nat.add_le_add_left (by decide : 0 + 1 ≤ 64) _) hr.units
    refine ⟨_, (pss_cons (ps_setComp (i := 1) sc_law.nd rfl rfl (CompSc.of (N' := ["k", "script"]) (ix := [none, some 0]) rfl (by kernel_rfl)) rfl rfl rfl rfl (pi_range1 (by rfl) T.n_range (pa_cons (pe_op op_add pe_int (pe_call G_drawn (hr.mono (by decide)) (by rfl) T.m__law_drawn T.k__law_drawn T.b__law_drawn .nil pass0 (pa_cons (pv 0) (pa_cons pe_int (pa_cons pe_int pa_nil))))) pa_nil)) (by exact fun _ _ _ _ _ => pf_nil) (by exact fun _ _ _ _ _ => (pe_comp (CompSc.of (N' := ["j"]) (ix := [none]) rfl (by kernel_rfl)) rfl rfl rfl rfl (pi_range1 (by rfl) T.n_range (pa_cons (pe_op op_add pe_int (pe_call G_drawn (hr.mono (by decide)) (by rfl) T.m__law_drawn T.k__law_drawn T.b__law_drawn .nil pass0 (pa_cons (pv 1) (pa_cons (pe_op op_add pe_int (pv 0)) (pa_cons pe_int pa_nil))))) pa_nil)) (by exact fun _ _ _ _ _ => pf_nil) (by exact fun _ _ _ _ _ => (pe_un un_neg pe_int)) (fun _ => rfl))))
      (pss_cons (ps_set (i := 2) sc_law.nd rfl (Or.inl rfl) (pe_make T.mk_Board G_i_Board (hr.mono (by decide)) (by rfl) T.m_Board T.bi_Board .nil pass0 (pa_cons (pe_comp (CompSc.of (N' := ["row"]) (ix := [none]) rfl (by kernel_rfl)) rfl rfl rfl rfl (pi_listK (K := K) rfl (pv 1)) (by exact fun _ _ _ _ _ => pf_nil) (by exact fun _ _ _ _ _ => (pe_callTy (call_listK (K := K) rfl) (by rfl) T.n_list PyProof.Rows.Boot.«list» (pa_cons (pv 0) pa_nil))) (fun _ => rfl)) pa_nil)))
      (pss_cons (ps_set (i := 3) sc_law.nd rfl (Or.inl rfl) (pe_call G_drawn (hr.mono (by decide)) (by rfl) T.m__law_drawn T.k__law_drawn T.b__law_drawn .nil pass0 (pa_cons (pv 0) (pa_cons pe_int (pa_cons (pe_callB (call_lenK (K := K) rfl) (by rfl) T.n_len PySem.boot_len (pa_cons (pv 1) pa_nil)) pa_nil)))))
      (pss_cons (ps_set (i := 4) sc_law.nd rfl (Or.inr rfl) (pe_call G_drawn (hr.mono (by decide)) (by rfl) T.m__law_drawn T.k__law_drawn T.b__law_drawn .nil pass0 (pa_cons (pv 0) (pa_cons pe_int (pa_cons pe_int pa_nil)))))
      (pss_cons (ps_set (i := 5) sc_law.nd rfl (Or.inl rfl) (pe_lst pa_nil))
      (pss_cons (ps_tryE rfl rfl (px_call G_deed (hr.mono (by decide)) (by rfl) T.m__law_deed T.k__law_deed T.b__law_deed (pa_cons (pv 2) (pa_cons (pv 4) (pa_cons (pv 3) (pa_cons (pe_callB (call_lenK (K := K) rfl) (by rfl) T.n_len PySem.boot_len (pa_cons (pe_ix (ix_listK (K := K) rfl) (pv 1) (pv 3) (fun _ _ => rfl)) pa_nil)) pa_nil)))))
        (ph_as (i := 6) sc_law.nd rfl rfl (.inl rfl) (by rfl) T.m_BoardError T.kb_BoardError (by exact fun _ => (pss_one (ps_set (i := 5) sc_law.nd rfl (Or.inl rfl) (pe_callH GH_marks (by exact hr.depth) (by rfl) T.m__law_marks T.k__law_marks T.b__law_marks (pa_cons (pv 6) pa_nil))))) ph_nil))
      (pss_one (ps_ret (pe_cmpR (op_eqLK (K := K) 0 rfl hul) (pv 5) (pe_comp (CompSc.of (N' := ["k", "way"]) (ix := [none, some 4]) rfl (by kernel_rfl)) rfl rfl rfl rfl (pi_range1 (by rfl) T.n_range (pa_cons pe_int pa_nil)) (by exact fun _ _ _ _ _ => pf_nil) (by exact fun _ _ _ _ _ => (pe_or (pe_cmpR op_eq (pv 0) (pv 1) (nomark _)) (pe_one (pe_cmpR op_eq (pv 0) pe_int (nomark _))))) (fun _ => rfl)) (nomark _)))))))))), ?_⟩
    have y0 := drawn_nn ns 1 (many := 12) (by decide)
    have y1 := drawn_lt ns 1 (many := 12) (by decide)
    refine ⟨_, rfl, a, ns, 1, 12, rfl, hS, by decide, by decide, by decide, _, _, rfl, rfl, _, rfl, by omega, by omega, ?_⟩
    generalize drawn ns 1 12 = m at y0 y1
    generalize hrows : (List.range (1 + m).toNat).map (fun (k : Nat) => List.replicate (1 + drawn ns (10 + (0 + (k : Int))) 3).toNat (-1 : Int)) = rows
    have hrl : rows.length = (1 + m).toNat := by rw [← hrows]; simp
    have PT : Pits rows := by
      refine ⟨by omega, by omega, fun r hr' => ?_⟩
      rw [← hrows] at hr'
      obtain ⟨k, _, rfl⟩ := List.mem_map.mp hr'
      have d0 := drawn_nn ns (10 + (0 + (k : Int))) (many := 3) (by decide)
      have d1 := drawn_lt ns (10 + (0 + (k : Int))) (many := 3) (by decide)
      rw [List.length_replicate]
      exact ⟨by omega, by omega, fun e he => List.eq_of_mem_replicate he⟩
    have W := PT.wf
    have h12 := PT.2.1
    refine comp_news (ls := rows.map fun r => r.map V.int) wk_range (by rw [List.length_map, List.length_range]; exact small12 (by omega)) (by rw [List.length_map, List.length_map, List.length_range, hrl]) (fun i x l H3 ex el s3 Q' q' => ?_) (fun as H1 s1 hlen1 nd1 fr1 hrow1 R hR => ?_)
    · have hi : i < (1 + m).toNat := by have := (List.getElem?_eq_some_iff.mp ex).1; simpa using this
      rw [List.getElem?_map, List.getElem?_range hi] at ex
      cases ex
      rw [← hrows, List.getElem?_map, List.getElem?_map, List.getElem?_range hi] at el
      cases el
      have d0 := drawn_nn ns (10 + (0 + (i : Int))) (many := 3) (by decide)
      have d1 := drawn_lt ns (10 + (0 + (i : Int))) (many := 3) (by decide)
      refine ⟨_, rfl, _, rfl, _, _, rfl, rfl, a, ns, _, 3, rfl, s3.seq hS, by decide, by omega, by omega, _, _, rfl, rfl, _, rfl, by omega, by omega, ?_⟩
      dsimp only at q'
      generalize drawn ns (10 + (0 + (i : Int))) 3 = dd at d0 d1 q'
      refine comp_pure (ys := (List.replicate (1 + dd).toNat (-1 : Int)).map V.int) wk_range (by rw [List.length_map, List.length_range]; exact small12 (by omega)) (by simp) (fun j x y ex ey Q2 q2 => ?_) (fun D hD => q' D hD)
      have ey' : y = V.int (-1) := by
        rw [List.getElem?_map, List.getElem?_replicate] at ey
        split at ey <;> cases ey
        rfl
      subst ey'
      exact ⟨_, rfl, q2⟩
    rw [List.length_map] at hlen1
    have M := mat_of (H := H) (R := R) hlen1 nd1 s1 hrow1 hR
    have s1' : Same H (upd H1 R (.lst (as.map V.ref))) := same_upd s1 (s1.free hR)
    generalize upd H1 R (.lst (as.map V.ref)) = H2 at M s1'
    have hl := M.reflen
    refine ⟨_, rfl, R, rfl, ⟨_, M.sq⟩, ?_⟩
    refine comp_news (ls := rows.map fun r => r.map V.int) (wk_list M.sq) (by rw [hl]; exact small12 (by omega)) (by rw [List.length_map, hl]) (fun i x l H3 ex el s3 Q' q' => ?_) (fun as2 H2' s2 hlen2 nd2 fr2 hrows2 D hD => ?_)
    · obtain ⟨c, hi', rfl, ec, hc, _⟩ := M.refs ex
      rw [List.getElem?_map, List.getElem?_eq_getElem hi'] at el
      cases el
      exact ⟨_, rfl, _, _, rfl, .inl (SqL.of (s3 _ _ hc)), q'⟩
    rw [List.length_map] at hlen2
    have MD := mat_of (H := H2) (R := D) hlen2 nd2 s2 hrows2 hD
    have s2' : Same H2 (upd H2' D (.lst (as2.map V.ref))) := same_upd s2 (s2.free hD)
    generalize upd H2' D (.lst (as2.map V.ref)) = H3 at MD s2'
    intro p dx hp hdx hne
    refine ⟨p, dx, D, as2, rows, rfl, upd_same, MD.same (same_upd (same_new hdx) hp), W, fun aR asB aT aL aS H4 B kp frB => ⟨rfl, ?_⟩⟩
    have s4 : Same H2 H4 := s2'.trans (made_same hp hdx kp)
    have M4 := M.same s4
    have s04 := s1'.trans s4
    have d0 := drawn_nn ns 2 (many := (rows.length : Int)) (by omega)
    have d1 := drawn_lt ns 2 (many := (rows.length : Int)) (by omega)
    refine ⟨_, rfl, _, rfl, _, _, rfl, .inl M4.sq, a, ns, _, _, rfl, s04.seq hS, by rw [hl]; omega, by decide, by decide, ?_⟩
    rw [hl]
    generalize drawn ns 2 (rows.length : Int) = at0 at d0 d1
    have v0 := drawn_nn ns 3 (many := 10) (by decide)
    have v1 := drawn_lt ns 3 (many := 10) (by decide)
    refine ⟨_, rfl, a, ns, 3, 10, rfl, s04.seq hS, by decide, by decide, by decide, ?_⟩
    generalize drawn ns 3 10 = wy at v0 v1
    obtain ⟨w', rfl⟩ : ∃ w' : Nat, wy = (w' : Int) := ⟨wy.toNat, by omega⟩
    refine ⟨small12 (by show 0 ≤ 100; decide), fun lf hlf => ?_⟩
    obtain ⟨c, hat, hc, _⟩ := M4.at d0 d1
    have sf : Same H4 (upd H4 lf (.lst [])) := same_new hlf
    refine (show _ from ?_)
    generalize upd H4 lf (.lst []) = H5 at sf
    refine ⟨fun cls _ H' => cls = .ref (wcls A w'), ⟨_, rfl, _, rfl, _, rfl, _, rfl, _, rfl, _, _, _, _, rfl, rfl, (M4.same sf).sq, hat, _, _, rfl, .inl (SqL.of (sf _ _ hc)), p, dx, aR, asB, aT, aL, aS, rows, w', at0, _, rfl, B.same sf, PT, d0, d1, (by rw [List.length_map]), by omega, fun c H' => rfl⟩, ?_⟩
    rintro cls c' H6 rfl
    obtain ⟨k1, k2⟩ := wcls_ok T (w := w') (by omega)
    refine ⟨wcls A w', true, rfl, k1, k2, iteT (fun e he => ?_)⟩
    refine ⟨_, rfl, e, w', rfl, by omega, upd_same, fun l H7 e7 => ?_⟩
    refine ⟨_, rfl, _, rfl, by decide, by decide, ?_⟩
    refine comp_pure (ys := marksL w') wk_range (by decide) (by rfl) (fun j x y ex ey Q' q' => ?_) (fun D hD => ?_)
    · unfold marksL at ey
      rw [List.getElem?_map] at ex ey
      cases er : (List.range 11)[j]? with
      | none => rw [er] at ey; cases ey
      | some k =>
        rw [show (11 : Int).toNat = 11 from rfl, er] at ex
        rw [er] at ey
        cases ex
        cases ey
        have e2 : ∀ z : Int, decide (V.int (0 + (k : Int)) = V.int z) = decide ((k : Int) = z) := fun z => decide_eq_decide.mpr ⟨fun h => (by injection h with h; omega), fun h => by rw [← h]; simp⟩
        refine ⟨_, rfl, _, rfl, rfl, _, rfl, ?_⟩
        dsimp only at q' ⊢
        rw [e2]
        by_cases hk : k = w'
        · subst hk
          rw [decide_eq_true rfl, if_pos rfl]
          rw [decide_eq_true rfl, Bool.true_or] at q'
          exact q'
        · rw [decide_eq_false (by omega), if_neg (by decide)]
          rw [decide_eq_false hk, Bool.false_or] at q'
          refine ⟨_, rfl, rfl, ?_⟩
          rw [e2, show decide ((k : Int) = 10) = decide (k = 10) from decide_eq_decide.mpr ⟨fun h => by omega, fun h => by omega⟩]
          exact q'
    · have sD := same_new hD (o := .lst (marksL w'))
      refine ⟨⟨l, D, _, _, rfl, rfl, SqL.of (sD _ _ e7), SqL.of upd_same, rfl, fun i u v e1 e2 => ?_⟩, q _⟩
      rw [e1] at e2
      cases e2
      obtain ⟨x, _, rfl⟩ := List.mem_map.mp (List.mem_of_getElem? e1)
      exact ⟨rfl, rfl, by simp [eqV]⟩
end
theorem all_mk {l : PySem.W.OpenLaw} {w : World} {K : PySem.W.Frag} {h : Heap} {mg : Str → Option Value} {fa : Addr} (X : K.In h) (G : h.Ns mainGlobals mg) (hfa : mg "law" = some (.ref fa))
    {C : Addr}
    {f_check_rows : Addr} {od_check_rows an_check_rows : Option Addr} {sl_check_rows : Array (Option Value)} {oc_check_rows kV_check_rows dc_check_rows pm_check_rows cd_check_rows ct_check_rows : Value}
    {f_check_row : Addr} {od_check_row an_check_row : Option Addr} {sl_check_row : Array (Option Value)} {oc_check_row kV_check_row dc_check_row pm_check_row cd_check_row ct_check_row : Value}
    {f_check_site : Addr} {od_check_site an_check_site : Option Addr} {sl_check_site : Array (Option Value)} {oc_check_site kV_check_site dc_check_site pm_check_site cd_check_site ct_check_site : Value}
    {f_Binit : Addr} {od_Binit an_Binit : Option Addr} {sl_Binit : Array (Option Value)} {oc_Binit kV_Binit dc_Binit pm_Binit cd_Binit ct_Binit : Value}
    {f_Bturn_to : Addr} {od_Bturn_to an_Bturn_to : Option Addr} {sl_Bturn_to : Array (Option Value)} {oc_Bturn_to kV_Bturn_to dc_Bturn_to pm_Bturn_to cd_Bturn_to ct_Bturn_to : Value}
    {f_Bload : Addr} {od_Bload an_Bload : Option Addr} {sl_Bload : Array (Option Value)} {oc_Bload kV_Bload dc_Bload pm_Bload cd_Bload ct_Bload : Value}
    {f_Btwin : Addr} {od_Btwin an_Btwin : Option Addr} {sl_Btwin : Array (Option Value)} {oc_Btwin kV_Btwin dc_Btwin pm_Btwin cd_Btwin ct_Btwin : Value}
    {f_Bstand_like : Addr} {od_Bstand_like an_Bstand_like : Option Addr} {sl_Bstand_like : Array (Option Value)} {oc_Bstand_like kV_Bstand_like dc_Bstand_like pm_Bstand_like cd_Bstand_like ct_Bstand_like : Value}
    {f_reached : Addr} {od_reached an_reached : Option Addr} {sl_reached : Array (Option Value)} {oc_reached kV_reached dc_reached pm_reached cd_reached ct_reached : Value}
    {f_is_open : Addr} {od_is_open an_is_open : Option Addr} {sl_is_open : Array (Option Value)} {oc_is_open kV_is_open dc_is_open pm_is_open cd_is_open ct_is_open : Value}
    {f_check_open : Addr} {od_check_open an_check_open : Option Addr} {sl_check_open : Array (Option Value)} {oc_check_open kV_check_open dc_check_open pm_check_open cd_check_open ct_check_open : Value}
    {f_last_exit : Addr} {od_last_exit an_last_exit : Option Addr} {sl_last_exit : Array (Option Value)} {oc_last_exit kV_last_exit dc_last_exit pm_last_exit cd_last_exit ct_last_exit : Value}
    {f_is_tree : Addr} {od_is_tree an_is_tree : Option Addr} {sl_is_tree : Array (Option Value)} {oc_is_tree kV_is_tree dc_is_tree pm_is_tree cd_is_tree ct_is_tree : Value}
    {f_step : Addr} {od_step an_step : Option Addr} {sl_step : Array (Option Value)} {oc_step kV_step dc_step pm_step cd_step ct_step : Value}
    {f_loaded : Addr} {od_loaded an_loaded : Option Addr} {sl_loaded : Array (Option Value)} {oc_loaded kV_loaded dc_loaded pm_loaded cd_loaded ct_loaded : Value}
    {f_run : Addr} {od_run an_run : Option Addr} {sl_run : Array (Option Value)} {oc_run kV_run dc_run pm_run cd_run ct_run : Value}
    {f_check_back : Addr} {od_check_back an_check_back : Option Addr} {sl_check_back : Array (Option Value)} {oc_check_back kV_check_back dc_check_back pm_check_back cd_check_back ct_check_back : Value}
    {f_run_back : Addr} {od_run_back an_run_back : Option Addr} {sl_run_back : Array (Option Value)} {oc_run_back kV_run_back dc_run_back pm_run_back cd_run_back ct_run_back : Value}
    {f_turn_back : Addr} {od_turn_back an_turn_back : Option Addr} {sl_turn_back : Array (Option Value)} {oc_turn_back kV_turn_back dc_turn_back pm_turn_back cd_turn_back ct_turn_back : Value}
    {f_place_ahead : Addr} {od_place_ahead an_place_ahead : Option Addr} {sl_place_ahead : Array (Option Value)} {oc_place_ahead kV_place_ahead dc_place_ahead pm_place_ahead cd_place_ahead ct_place_ahead : Value}
    {f_leads_to : Addr} {od_leads_to an_leads_to : Option Addr} {sl_leads_to : Array (Option Value)} {oc_leads_to kV_leads_to dc_leads_to pm_leads_to cd_leads_to ct_leads_to : Value}
    {f_read : Addr} {od_read an_read : Option Addr} {sl_read : Array (Option Value)} {oc_read kV_read dc_read pm_read cd_read ct_read : Value}
    {f_told : Addr} {od_told an_told : Option Addr} {sl_told : Array (Option Value)} {oc_told kV_told dc_told pm_told cd_told ct_told : Value}
    {f_read_head : Addr} {od_read_head an_read_head : Option Addr} {sl_read_head : Array (Option Value)} {oc_read_head kV_read_head dc_read_head pm_read_head cd_read_head ct_read_head : Value}
    {f_read_numbers : Addr} {od_read_numbers an_read_numbers : Option Addr} {sl_read_numbers : Array (Option Value)} {oc_read_numbers kV_read_numbers dc_read_numbers pm_read_numbers cd_read_numbers ct_read_numbers : Value}
    {f_read_row : Addr} {od_read_row an_read_row : Option Addr} {sl_read_row : Array (Option Value)} {oc_read_row kV_read_row dc_read_row pm_read_row cd_read_row ct_read_row : Value}
    {f_read_way : Addr} {od_read_way an_read_way : Option Addr} {sl_read_way : Array (Option Value)} {oc_read_way kV_read_way dc_read_way pm_read_way cd_read_way ct_read_way : Value}
    {f_read_number : Addr} {od_read_number an_read_number : Option Addr} {sl_read_number : Array (Option Value)} {oc_read_number kV_read_number dc_read_number pm_read_number cd_read_number ct_read_number : Value}
    {f_drawn : Addr} {od_drawn an_drawn : Option Addr} {sl_drawn : Array (Option Value)} {oc_drawn kV_drawn dc_drawn pm_drawn cd_drawn ct_drawn : Value}
    {f_marks : Addr} {od_marks an_marks : Option Addr} {sl_marks : Array (Option Value)} {oc_marks kV_marks dc_marks pm_marks cd_marks ct_marks : Value}
    {f_deed : Addr} {od_deed an_deed : Option Addr} {sl_deed : Array (Option Value)} {oc_deed kV_deed dc_deed pm_deed cd_deed ct_deed : Value}
    {f_law : Addr} {od_law an_law : Option Addr} {sl_law : Array (Option Value)} {oc_law kV_law dc_law pm_law cd_law ct_law : Value}
    {t_PIT : Tok}
    {t_MOST_SITES : Tok}
    {t_MOST_EXITS : Tok}
    {t_MOST_MARBLES : Tok}
    {t_HEAD : Tok}
    {t_MARK : Tok}
    {t_PIT_WORD : Tok}
    {t_FIGURES : Tok}
    {t_MOST_FIGURES : Tok}
    {c_NoPlace : Addr}
    {c_NoSite : Addr}
    {c_NoExit : Addr}
    {c_NoMarble : Addr}
    {c_TooMany : Addr}
    {c_NotOpen : Addr}
    {c_NotBare : Addr}
    {c_NotTree : Addr}
    {c_TooLong : Addr}
    {c_NoBoard : Addr}
    {c_BoardError : Addr}
    (aC : PySem.W.nsIn K mainGlobals "Board" = some (some (.ref C)))
    (a_check_rows : PySem.W.nsIn K mainGlobals "check_rows" = some (some (.ref f_check_rows)))
    (l_check_rows : K.lookup f_check_rows = some ⟨oc_check_rows, od_check_rows, .func (PySem.W.fnOf "check_rows" "check_rows" (defArgs s_check_rows) (defBody s_check_rows) (defScope s_check_rows) .none kV_check_rows dc_check_rows pm_check_rows an_check_rows cd_check_rows ct_check_rows), sl_check_rows⟩) (c_check_rows : PySem.W.codeIn K cd_check_rows "check_rows" = true) (k_check_rows : PySem.W.keepIn K (.ref f_check_rows) = true)
    (a_check_row : PySem.W.nsIn K mainGlobals "check_row" = some (some (.ref f_check_row)))
    (l_check_row : K.lookup f_check_row = some ⟨oc_check_row, od_check_row, .func (PySem.W.fnOf "check_row" "check_row" (defArgs s_check_row) (defBody s_check_row) (defScope s_check_row) .none kV_check_row dc_check_row pm_check_row an_check_row cd_check_row ct_check_row), sl_check_row⟩) (c_check_row : PySem.W.codeIn K cd_check_row "check_row" = true) (k_check_row : PySem.W.keepIn K (.ref f_check_row) = true)
    (a_check_site : PySem.W.nsIn K mainGlobals "check_site" = some (some (.ref f_check_site)))
    (l_check_site : K.lookup f_check_site = some ⟨oc_check_site, od_check_site, .func (PySem.W.fnOf "check_site" "check_site" (defArgs s_check_site) (defBody s_check_site) (defScope s_check_site) .none kV_check_site dc_check_site pm_check_site an_check_site cd_check_site ct_check_site), sl_check_site⟩) (c_check_site : PySem.W.codeIn K cd_check_site "check_site" = true) (k_check_site : PySem.W.keepIn K (.ref f_check_site) = true)
    (a_Binit : PySem.W.findIn K (.ref C) "__init__" = some (some (.ref f_Binit))) (i_Binit : PySem.W.isFn K (.ref f_Binit) = true)
    (l_Binit : K.lookup f_Binit = some ⟨oc_Binit, od_Binit, .func (PySem.W.fnOf "__init__" "Board.__init__" (defArgs s_Binit) (defBody s_Binit) (defScope s_Binit) .none kV_Binit dc_Binit pm_Binit an_Binit cd_Binit ct_Binit), sl_Binit⟩) (c_Binit : PySem.W.codeIn K cd_Binit "Board.__init__" = true) (k_Binit : PySem.W.keepIn K (.ref f_Binit) = true)
    (a_Bturn_to : PySem.W.findIn K (.ref C) "turn_to" = some (some (.ref f_Bturn_to))) (i_Bturn_to : PySem.W.isFn K (.ref f_Bturn_to) = true)
    (l_Bturn_to : K.lookup f_Bturn_to = some ⟨oc_Bturn_to, od_Bturn_to, .func (PySem.W.fnOf "turn_to" "Board.turn_to" (defArgs s_Bturn_to) (defBody s_Bturn_to) (defScope s_Bturn_to) .none kV_Bturn_to dc_Bturn_to pm_Bturn_to an_Bturn_to cd_Bturn_to ct_Bturn_to), sl_Bturn_to⟩) (c_Bturn_to : PySem.W.codeIn K cd_Bturn_to "Board.turn_to" = true) (k_Bturn_to : PySem.W.keepIn K (.ref f_Bturn_to) = true)
    (a_Bload : PySem.W.findIn K (.ref C) "load" = some (some (.ref f_Bload))) (i_Bload : PySem.W.isFn K (.ref f_Bload) = true)
    (l_Bload : K.lookup f_Bload = some ⟨oc_Bload, od_Bload, .func (PySem.W.fnOf "load" "Board.load" (defArgs s_Bload) (defBody s_Bload) (defScope s_Bload) .none kV_Bload dc_Bload pm_Bload an_Bload cd_Bload ct_Bload), sl_Bload⟩) (c_Bload : PySem.W.codeIn K cd_Bload "Board.load" = true) (k_Bload : PySem.W.keepIn K (.ref f_Bload) = true)
    (a_Btwin : PySem.W.findIn K (.ref C) "twin" = some (some (.ref f_Btwin))) (i_Btwin : PySem.W.isFn K (.ref f_Btwin) = true)
    (l_Btwin : K.lookup f_Btwin = some ⟨oc_Btwin, od_Btwin, .func (PySem.W.fnOf "twin" "Board.twin" (defArgs s_Btwin) (defBody s_Btwin) (defScope s_Btwin) .none kV_Btwin dc_Btwin pm_Btwin an_Btwin cd_Btwin ct_Btwin), sl_Btwin⟩) (c_Btwin : PySem.W.codeIn K cd_Btwin "Board.twin" = true) (k_Btwin : PySem.W.keepIn K (.ref f_Btwin) = true)
    (a_Bstand_like : PySem.W.findIn K (.ref C) "stand_like" = some (some (.ref f_Bstand_like))) (i_Bstand_like : PySem.W.isFn K (.ref f_Bstand_like) = true)
    (l_Bstand_like : K.lookup f_Bstand_like = some ⟨oc_Bstand_like, od_Bstand_like, .func (PySem.W.fnOf "stand_like" "Board.stand_like" (defArgs s_Bstand_like) (defBody s_Bstand_like) (defScope s_Bstand_like) .none kV_Bstand_like dc_Bstand_like pm_Bstand_like an_Bstand_like cd_Bstand_like ct_Bstand_like), sl_Bstand_like⟩) (c_Bstand_like : PySem.W.codeIn K cd_Bstand_like "Board.stand_like" = true) (k_Bstand_like : PySem.W.keepIn K (.ref f_Bstand_like) = true)
    (a_reached : PySem.W.nsIn K mainGlobals "reached" = some (some (.ref f_reached)))
    (l_reached : K.lookup f_reached = some ⟨oc_reached, od_reached, .func (PySem.W.fnOf "reached" "reached" (defArgs s_reached) (defBody s_reached) (defScope s_reached) .none kV_reached dc_reached pm_reached an_reached cd_reached ct_reached), sl_reached⟩) (c_reached : PySem.W.codeIn K cd_reached "reached" = true) (k_reached : PySem.W.keepIn K (.ref f_reached) = true)
    (a_is_open : PySem.W.nsIn K mainGlobals "is_open" = some (some (.ref f_is_open)))
    (l_is_open : K.lookup f_is_open = some ⟨oc_is_open, od_is_open, .func (PySem.W.fnOf "is_open" "is_open" (defArgs s_is_open) (defBody s_is_open) (defScope s_is_open) .none kV_is_open dc_is_open pm_is_open an_is_open cd_is_open ct_is_open), sl_is_open⟩) (c_is_open : PySem.W.codeIn K cd_is_open "is_open" = true) (k_is_open : PySem.W.keepIn K (.ref f_is_open) = true)
    (a_check_open : PySem.W.nsIn K mainGlobals "check_open" = some (some (.ref f_check_open)))
    (l_check_open : K.lookup f_check_open = some ⟨oc_check_open, od_check_open, .func (PySem.W.fnOf "check_open" "check_open" (defArgs s_check_open) (defBody s_check_open) (defScope s_check_open) .none kV_check_open dc_check_open pm_check_open an_check_open cd_check_open ct_check_open), sl_check_open⟩) (c_check_open : PySem.W.codeIn K cd_check_open "check_open" = true) (k_check_open : PySem.W.keepIn K (.ref f_check_open) = true)
    (a_last_exit : PySem.W.nsIn K mainGlobals "last_exit" = some (some (.ref f_last_exit)))
    (l_last_exit : K.lookup f_last_exit = some ⟨oc_last_exit, od_last_exit, .func (PySem.W.fnOf "last_exit" "last_exit" (defArgs s_last_exit) (defBody s_last_exit) (defScope s_last_exit) .none kV_last_exit dc_last_exit pm_last_exit an_last_exit cd_last_exit ct_last_exit), sl_last_exit⟩) (c_last_exit : PySem.W.codeIn K cd_last_exit "last_exit" = true) (k_last_exit : PySem.W.keepIn K (.ref f_last_exit) = true)
    (a_is_tree : PySem.W.nsIn K mainGlobals "is_tree" = some (some (.ref f_is_tree)))
    (l_is_tree : K.lookup f_is_tree = some ⟨oc_is_tree, od_is_tree, .func (PySem.W.fnOf "is_tree" "is_tree" (defArgs s_is_tree) (defBody s_is_tree) (defScope s_is_tree) .none kV_is_tree dc_is_tree pm_is_tree an_is_tree cd_is_tree ct_is_tree), sl_is_tree⟩) (c_is_tree : PySem.W.codeIn K cd_is_tree "is_tree" = true) (k_is_tree : PySem.W.keepIn K (.ref f_is_tree) = true)
    (a_step : PySem.W.nsIn K mainGlobals "step" = some (some (.ref f_step)))
    (l_step : K.lookup f_step = some ⟨oc_step, od_step, .func (PySem.W.fnOf "step" "step" (defArgs s_step) (defBody s_step) (defScope s_step) .none kV_step dc_step pm_step an_step cd_step ct_step), sl_step⟩) (c_step : PySem.W.codeIn K cd_step "step" = true) (k_step : PySem.W.keepIn K (.ref f_step) = true)
    (a_loaded : PySem.W.nsIn K mainGlobals "loaded" = some (some (.ref f_loaded)))
    (l_loaded : K.lookup f_loaded = some ⟨oc_loaded, od_loaded, .func (PySem.W.fnOf "loaded" "loaded" (defArgs s_loaded) (defBody s_loaded) (defScope s_loaded) .none kV_loaded dc_loaded pm_loaded an_loaded cd_loaded ct_loaded), sl_loaded⟩) (c_loaded : PySem.W.codeIn K cd_loaded "loaded" = true) (k_loaded : PySem.W.keepIn K (.ref f_loaded) = true)
    (a_run : PySem.W.nsIn K mainGlobals "run" = some (some (.ref f_run)))
    (l_run : K.lookup f_run = some ⟨oc_run, od_run, .func (PySem.W.fnOf "run" "run" (defArgs s_run) (defBody s_run) (defScope s_run) .none kV_run dc_run pm_run an_run cd_run ct_run), sl_run⟩) (c_run : PySem.W.codeIn K cd_run "run" = true) (k_run : PySem.W.keepIn K (.ref f_run) = true)
    (a_check_back : PySem.W.nsIn K mainGlobals "check_back" = some (some (.ref f_check_back)))
    (l_check_back : K.lookup f_check_back = some ⟨oc_check_back, od_check_back, .func (PySem.W.fnOf "check_back" "check_back" (defArgs s_check_back) (defBody s_check_back) (defScope s_check_back) .none kV_check_back dc_check_back pm_check_back an_check_back cd_check_back ct_check_back), sl_check_back⟩) (c_check_back : PySem.W.codeIn K cd_check_back "check_back" = true) (k_check_back : PySem.W.keepIn K (.ref f_check_back) = true)
    (a_run_back : PySem.W.nsIn K mainGlobals "run_back" = some (some (.ref f_run_back)))
    (l_run_back : K.lookup f_run_back = some ⟨oc_run_back, od_run_back, .func (PySem.W.fnOf "run_back" "run_back" (defArgs s_run_back) (defBody s_run_back) (defScope s_run_back) .none kV_run_back dc_run_back pm_run_back an_run_back cd_run_back ct_run_back), sl_run_back⟩) (c_run_back : PySem.W.codeIn K cd_run_back "run_back" = true) (k_run_back : PySem.W.keepIn K (.ref f_run_back) = true)
    (a_turn_back : PySem.W.nsIn K mainGlobals "turn_back" = some (some (.ref f_turn_back)))
    (l_turn_back : K.lookup f_turn_back = some ⟨oc_turn_back, od_turn_back, .func (PySem.W.fnOf "turn_back" "turn_back" (defArgs s_turn_back) (defBody s_turn_back) (defScope s_turn_back) .none kV_turn_back dc_turn_back pm_turn_back an_turn_back cd_turn_back ct_turn_back), sl_turn_back⟩) (c_turn_back : PySem.W.codeIn K cd_turn_back "turn_back" = true) (k_turn_back : PySem.W.keepIn K (.ref f_turn_back) = true)
    (a_place_ahead : PySem.W.nsIn K mainGlobals "place_ahead" = some (some (.ref f_place_ahead)))
    (l_place_ahead : K.lookup f_place_ahead = some ⟨oc_place_ahead, od_place_ahead, .func (PySem.W.fnOf "place_ahead" "place_ahead" (defArgs s_place_ahead) (defBody s_place_ahead) (defScope s_place_ahead) .none kV_place_ahead dc_place_ahead pm_place_ahead an_place_ahead cd_place_ahead ct_place_ahead), sl_place_ahead⟩) (c_place_ahead : PySem.W.codeIn K cd_place_ahead "place_ahead" = true) (k_place_ahead : PySem.W.keepIn K (.ref f_place_ahead) = true)
    (a_leads_to : PySem.W.nsIn K mainGlobals "leads_to" = some (some (.ref f_leads_to)))
    (l_leads_to : K.lookup f_leads_to = some ⟨oc_leads_to, od_leads_to, .func (PySem.W.fnOf "leads_to" "leads_to" (defArgs s_leads_to) (defBody s_leads_to) (defScope s_leads_to) .none kV_leads_to dc_leads_to pm_leads_to an_leads_to cd_leads_to ct_leads_to), sl_leads_to⟩) (c_leads_to : PySem.W.codeIn K cd_leads_to "leads_to" = true) (k_leads_to : PySem.W.keepIn K (.ref f_leads_to) = true)
    (a_read : PySem.W.nsIn K mainGlobals "read" = some (some (.ref f_read)))
    (l_read : K.lookup f_read = some ⟨oc_read, od_read, .func (PySem.W.fnOf "read" "read" (defArgs s_read) (defBody s_read) (defScope s_read) .none kV_read dc_read pm_read an_read cd_read ct_read), sl_read⟩) (c_read : PySem.W.codeIn K cd_read "read" = true) (k_read : PySem.W.keepIn K (.ref f_read) = true)
    (a_told : PySem.W.nsIn K mainGlobals "told" = some (some (.ref f_told)))
    (l_told : K.lookup f_told = some ⟨oc_told, od_told, .func (PySem.W.fnOf "told" "told" (defArgs s_told) (defBody s_told) (defScope s_told) .none kV_told dc_told pm_told an_told cd_told ct_told), sl_told⟩) (c_told : PySem.W.codeIn K cd_told "told" = true) (k_told : PySem.W.keepIn K (.ref f_told) = true)
    (a_read_head : PySem.W.nsIn K mainGlobals "read_head" = some (some (.ref f_read_head)))
    (l_read_head : K.lookup f_read_head = some ⟨oc_read_head, od_read_head, .func (PySem.W.fnOf "read_head" "read_head" (defArgs s_read_head) (defBody s_read_head) (defScope s_read_head) .none kV_read_head dc_read_head pm_read_head an_read_head cd_read_head ct_read_head), sl_read_head⟩) (c_read_head : PySem.W.codeIn K cd_read_head "read_head" = true) (k_read_head : PySem.W.keepIn K (.ref f_read_head) = true)
    (a_read_numbers : PySem.W.nsIn K mainGlobals "read_numbers" = some (some (.ref f_read_numbers)))
    (l_read_numbers : K.lookup f_read_numbers = some ⟨oc_read_numbers, od_read_numbers, .func (PySem.W.fnOf "read_numbers" "read_numbers" (defArgs s_read_numbers) (defBody s_read_numbers) (defScope s_read_numbers) .none kV_read_numbers dc_read_numbers pm_read_numbers an_read_numbers cd_read_numbers ct_read_numbers), sl_read_numbers⟩) (c_read_numbers : PySem.W.codeIn K cd_read_numbers "read_numbers" = true) (k_read_numbers : PySem.W.keepIn K (.ref f_read_numbers) = true)
    (a_read_row : PySem.W.nsIn K mainGlobals "read_row" = some (some (.ref f_read_row)))
    (l_read_row : K.lookup f_read_row = some ⟨oc_read_row, od_read_row, .func (PySem.W.fnOf "read_row" "read_row" (defArgs s_read_row) (defBody s_read_row) (defScope s_read_row) .none kV_read_row dc_read_row pm_read_row an_read_row cd_read_row ct_read_row), sl_read_row⟩) (c_read_row : PySem.W.codeIn K cd_read_row "read_row" = true) (k_read_row : PySem.W.keepIn K (.ref f_read_row) = true)
    (a_read_way : PySem.W.nsIn K mainGlobals "read_way" = some (some (.ref f_read_way)))
    (l_read_way : K.lookup f_read_way = some ⟨oc_read_way, od_read_way, .func (PySem.W.fnOf "read_way" "read_way" (defArgs s_read_way) (defBody s_read_way) (defScope s_read_way) .none kV_read_way dc_read_way pm_read_way an_read_way cd_read_way ct_read_way), sl_read_way⟩) (c_read_way : PySem.W.codeIn K cd_read_way "read_way" = true) (k_read_way : PySem.W.keepIn K (.ref f_read_way) = true)
    (a_read_number : PySem.W.nsIn K mainGlobals "read_number" = some (some (.ref f_read_number)))
    (l_read_number : K.lookup f_read_number = some ⟨oc_read_number, od_read_number, .func (PySem.W.fnOf "read_number" "read_number" (defArgs s_read_number) (defBody s_read_number) (defScope s_read_number) .none kV_read_number dc_read_number pm_read_number an_read_number cd_read_number ct_read_number), sl_read_number⟩) (c_read_number : PySem.W.codeIn K cd_read_number "read_number" = true) (k_read_number : PySem.W.keepIn K (.ref f_read_number) = true)
    (a_drawn : PySem.W.nsIn K mainGlobals "_law_drawn" = some (some (.ref f_drawn)))
    (l_drawn : K.lookup f_drawn = some ⟨oc_drawn, od_drawn, .func (PySem.W.fnOf "_law_drawn" "_law_drawn" (defArgs s_drawn) (defBody s_drawn) (defScope s_drawn) .none kV_drawn dc_drawn pm_drawn an_drawn cd_drawn ct_drawn), sl_drawn⟩) (c_drawn : PySem.W.codeIn K cd_drawn "_law_drawn" = true) (k_drawn : PySem.W.keepIn K (.ref f_drawn) = true)
    (a_marks : PySem.W.nsIn K mainGlobals "_law_marks" = some (some (.ref f_marks)))
    (l_marks : K.lookup f_marks = some ⟨oc_marks, od_marks, .func (PySem.W.fnOf "_law_marks" "_law_marks" (defArgs s_marks) (defBody s_marks) (defScope s_marks) .none kV_marks dc_marks pm_marks an_marks cd_marks ct_marks), sl_marks⟩) (c_marks : PySem.W.codeIn K cd_marks "_law_marks" = true) (k_marks : PySem.W.keepIn K (.ref f_marks) = true)
    (a_deed : PySem.W.nsIn K mainGlobals "_law_deed" = some (some (.ref f_deed)))
    (l_deed : K.lookup f_deed = some ⟨oc_deed, od_deed, .func (PySem.W.fnOf "_law_deed" "_law_deed" (defArgs s_deed) (defBody s_deed) (defScope s_deed) .none kV_deed dc_deed pm_deed an_deed cd_deed ct_deed), sl_deed⟩) (c_deed : PySem.W.codeIn K cd_deed "_law_deed" = true) (k_deed : PySem.W.keepIn K (.ref f_deed) = true)
    (a_law : PySem.W.nsIn K mainGlobals "law" = some (some (.ref f_law)))
    (l_law : K.lookup f_law = some ⟨oc_law, od_law, .func (PySem.W.fnOf "law" "law" (defArgs s_law) (defBody s_law) (defScope s_law) .none kV_law dc_law pm_law an_law cd_law ct_law), sl_law⟩) (c_law : PySem.W.codeIn K cd_law "law" = true) (k_law : PySem.W.keepIn K (.ref f_law) = true)
    (pg : PySem.W.plainGet K C Str.empty = true) (hd : PySem.W.hasDictIn K C = true) (po : PySem.W.plainOver K C = true) (sa : PySem.W.findIn K (.ref C) "__setattr__" = some (some (.builtin "object.__setattr__"))) (mk : PySem.W.makesIn K C = true) (kc : PySem.W.keepIn K (.ref C) = true)
    (na_rows : PySem.W.findIn K (.ref C) "rows" = some none)
    (na_turns : PySem.W.findIn K (.ref C) "turns" = some none)
    (na_loads : PySem.W.findIn K (.ref C) "loads" = some none)
    (na_steps : PySem.W.findIn K (.ref C) "steps" = some none)
    (na_taken : PySem.W.findIn K (.ref C) "taken" = some none)
    (z_len : PySem.W.nsIn K mainGlobals "len" = some none)
    (z_range : PySem.W.nsIn K mainGlobals "range" = some none)
    (z_isinstance : PySem.W.nsIn K mainGlobals "isinstance" = some none)
    (z_int : PySem.W.nsIn K mainGlobals "int" = some none)
    (z_list : PySem.W.nsIn K mainGlobals "list" = some none)
    (z_sum : PySem.W.nsIn K mainGlobals "sum" = some none)
    (z_all : PySem.W.nsIn K mainGlobals "all" = some none)
    (z_any : PySem.W.nsIn K mainGlobals "any" = some none)
    (z_enumerate : PySem.W.nsIn K mainGlobals "enumerate" = some none)
    (z_str : PySem.W.nsIn K mainGlobals "str" = some none)
    (z_ValueError : PySem.W.nsIn K mainGlobals "ValueError" = some none)
    (g_PIT : PySem.W.nsIn K mainGlobals "PIT" = some (some (.int (-1) t_PIT)))
    (g_MOST_SITES : PySem.W.nsIn K mainGlobals "MOST_SITES" = some (some (.int (12) t_MOST_SITES)))
    (g_MOST_EXITS : PySem.W.nsIn K mainGlobals "MOST_EXITS" = some (some (.int (8) t_MOST_EXITS)))
    (g_MOST_MARBLES : PySem.W.nsIn K mainGlobals "MOST_MARBLES" = some (some (.int (400) t_MOST_MARBLES)))
    (g_HEAD : PySem.W.nsIn K mainGlobals "HEAD" = some (some (.str "board" t_HEAD)))
    (g_MARK : PySem.W.nsIn K mainGlobals "MARK" = some (some (.str ">" t_MARK)))
    (g_PIT_WORD : PySem.W.nsIn K mainGlobals "PIT_WORD" = some (some (.str "pit" t_PIT_WORD)))
    (g_FIGURES : PySem.W.nsIn K mainGlobals "FIGURES" = some (some (.str "0123456789" t_FIGURES)))
    (g_MOST_FIGURES : PySem.W.nsIn K mainGlobals "MOST_FIGURES" = some (some (.int (20) t_MOST_FIGURES)))
    (ax_NoPlace : PySem.W.nsIn K mainGlobals "NoPlace" = some (some (.ref c_NoPlace)))
    (ex_NoPlace : PySem.W.excIn K c_NoPlace vErr "ValueError.__new__" = true)
    (kb_NoPlace : PySem.W.kitOne K (.ref c_NoPlace) (.type "BaseException") = some true)
    (ax_NoSite : PySem.W.nsIn K mainGlobals "NoSite" = some (some (.ref c_NoSite)))
    (ex_NoSite : PySem.W.excIn K c_NoSite vErr "ValueError.__new__" = true)
    (kb_NoSite : PySem.W.kitOne K (.ref c_NoSite) (.type "BaseException") = some true)
    (ax_NoExit : PySem.W.nsIn K mainGlobals "NoExit" = some (some (.ref c_NoExit)))
    (ex_NoExit : PySem.W.excIn K c_NoExit vErr "ValueError.__new__" = true)
    (kb_NoExit : PySem.W.kitOne K (.ref c_NoExit) (.type "BaseException") = some true)
    (ax_NoMarble : PySem.W.nsIn K mainGlobals "NoMarble" = some (some (.ref c_NoMarble)))
    (ex_NoMarble : PySem.W.excIn K c_NoMarble vErr "ValueError.__new__" = true)
    (kb_NoMarble : PySem.W.kitOne K (.ref c_NoMarble) (.type "BaseException") = some true)
    (ax_TooMany : PySem.W.nsIn K mainGlobals "TooMany" = some (some (.ref c_TooMany)))
    (ex_TooMany : PySem.W.excIn K c_TooMany vErr "ValueError.__new__" = true)
    (kb_TooMany : PySem.W.kitOne K (.ref c_TooMany) (.type "BaseException") = some true)
    (ax_NotOpen : PySem.W.nsIn K mainGlobals "NotOpen" = some (some (.ref c_NotOpen)))
    (ex_NotOpen : PySem.W.excIn K c_NotOpen vErr "ValueError.__new__" = true)
    (kb_NotOpen : PySem.W.kitOne K (.ref c_NotOpen) (.type "BaseException") = some true)
    (ax_NotBare : PySem.W.nsIn K mainGlobals "NotBare" = some (some (.ref c_NotBare)))
    (ex_NotBare : PySem.W.excIn K c_NotBare vErr "ValueError.__new__" = true)
    (kb_NotBare : PySem.W.kitOne K (.ref c_NotBare) (.type "BaseException") = some true)
    (ax_NotTree : PySem.W.nsIn K mainGlobals "NotTree" = some (some (.ref c_NotTree)))
    (ex_NotTree : PySem.W.excIn K c_NotTree vErr "ValueError.__new__" = true)
    (kb_NotTree : PySem.W.kitOne K (.ref c_NotTree) (.type "BaseException") = some true)
    (ax_TooLong : PySem.W.nsIn K mainGlobals "TooLong" = some (some (.ref c_TooLong)))
    (ex_TooLong : PySem.W.excIn K c_TooLong vErr "ValueError.__new__" = true)
    (kb_TooLong : PySem.W.kitOne K (.ref c_TooLong) (.type "BaseException") = some true)
    (ax_NoBoard : PySem.W.nsIn K mainGlobals "NoBoard" = some (some (.ref c_NoBoard)))
    (ex_NoBoard : PySem.W.excIn K c_NoBoard vErr "ValueError.__new__" = true)
    (kb_NoBoard : PySem.W.kitOne K (.ref c_NoBoard) (.type "BaseException") = some true)
    (ax_BoardError : PySem.W.nsIn K mainGlobals "BoardError" = some (some (.ref c_BoardError)))
    (ex_BoardError : PySem.W.excIn K c_BoardError vErr "ValueError.__new__" = true)
    (kb_BoardError : PySem.W.kitOne K (.ref c_BoardError) (.type "BaseException") = some true)
    (p_NoPlace_BoardError : PySem.W.kitOne K (.ref c_NoPlace) (.ref c_BoardError) = some true)
    (ne_NoPlace_BoardError : c_NoPlace ≠ c_BoardError)
    (p_NoSite_BoardError : PySem.W.kitOne K (.ref c_NoSite) (.ref c_BoardError) = some true)
    (ne_NoSite_BoardError : c_NoSite ≠ c_BoardError)
    (p_NoExit_BoardError : PySem.W.kitOne K (.ref c_NoExit) (.ref c_BoardError) = some true)
    (ne_NoExit_BoardError : c_NoExit ≠ c_BoardError)
    (p_NoMarble_BoardError : PySem.W.kitOne K (.ref c_NoMarble) (.ref c_BoardError) = some true)
    (ne_NoMarble_BoardError : c_NoMarble ≠ c_BoardError)
    (p_TooMany_BoardError : PySem.W.kitOne K (.ref c_TooMany) (.ref c_BoardError) = some true)
    (ne_TooMany_BoardError : c_TooMany ≠ c_BoardError)
    (p_NotOpen_BoardError : PySem.W.kitOne K (.ref c_NotOpen) (.ref c_BoardError) = some true)
    (ne_NotOpen_BoardError : c_NotOpen ≠ c_BoardError)
    (p_NotBare_BoardError : PySem.W.kitOne K (.ref c_NotBare) (.ref c_BoardError) = some true)
    (ne_NotBare_BoardError : c_NotBare ≠ c_BoardError)
    (p_NotTree_BoardError : PySem.W.kitOne K (.ref c_NotTree) (.ref c_BoardError) = some true)
    (ne_NotTree_BoardError : c_NotTree ≠ c_BoardError)
    (p_TooLong_BoardError : PySem.W.kitOne K (.ref c_TooLong) (.ref c_BoardError) = some true)
    (ne_TooLong_BoardError : c_TooLong ≠ c_BoardError)
    (p_NoBoard_BoardError : PySem.W.kitOne K (.ref c_NoBoard) (.ref c_BoardError) = some true)
    (ne_NoBoard_BoardError : c_NoBoard ≠ c_BoardError)
    (p_NoPlace_NoSite : PySem.W.kitOne K (.ref c_NoPlace) (.ref c_NoSite) = some false)
    (ne_NoPlace_NoSite : c_NoPlace ≠ c_NoSite)
    (p_NoPlace_NoExit : PySem.W.kitOne K (.ref c_NoPlace) (.ref c_NoExit) = some false)
    (ne_NoPlace_NoExit : c_NoPlace ≠ c_NoExit)
    (p_NoPlace_NoMarble : PySem.W.kitOne K (.ref c_NoPlace) (.ref c_NoMarble) = some false)
    (ne_NoPlace_NoMarble : c_NoPlace ≠ c_NoMarble)
    (p_NoPlace_TooMany : PySem.W.kitOne K (.ref c_NoPlace) (.ref c_TooMany) = some false)
    (ne_NoPlace_TooMany : c_NoPlace ≠ c_TooMany)
    (p_NoPlace_NotOpen : PySem.W.kitOne K (.ref c_NoPlace) (.ref c_NotOpen) = some false)
    (ne_NoPlace_NotOpen : c_NoPlace ≠ c_NotOpen)
    (p_NoPlace_NotBare : PySem.W.kitOne K (.ref c_NoPlace) (.ref c_NotBare) = some false)
    (ne_NoPlace_NotBare : c_NoPlace ≠ c_NotBare)
    (p_NoPlace_NotTree : PySem.W.kitOne K (.ref c_NoPlace) (.ref c_NotTree) = some false)
    (ne_NoPlace_NotTree : c_NoPlace ≠ c_NotTree)
    (p_NoPlace_TooLong : PySem.W.kitOne K (.ref c_NoPlace) (.ref c_TooLong) = some false)
    (ne_NoPlace_TooLong : c_NoPlace ≠ c_TooLong)
    (p_NoPlace_NoBoard : PySem.W.kitOne K (.ref c_NoPlace) (.ref c_NoBoard) = some false)
    (ne_NoPlace_NoBoard : c_NoPlace ≠ c_NoBoard)
    (p_NoSite_NoPlace : PySem.W.kitOne K (.ref c_NoSite) (.ref c_NoPlace) = some false)
    (ne_NoSite_NoPlace : c_NoSite ≠ c_NoPlace)
    (p_NoSite_NoExit : PySem.W.kitOne K (.ref c_NoSite) (.ref c_NoExit) = some false)
    (ne_NoSite_NoExit : c_NoSite ≠ c_NoExit)
    (p_NoSite_NoMarble : PySem.W.kitOne K (.ref c_NoSite) (.ref c_NoMarble) = some false)
    (ne_NoSite_NoMarble : c_NoSite ≠ c_NoMarble)
    (p_NoSite_TooMany : PySem.W.kitOne K (.ref c_NoSite) (.ref c_TooMany) = some false)
    (ne_NoSite_TooMany : c_NoSite ≠ c_TooMany)
    (p_NoSite_NotOpen : PySem.W.kitOne K (.ref c_NoSite) (.ref c_NotOpen) = some false)
    (ne_NoSite_NotOpen : c_NoSite ≠ c_NotOpen)
    (p_NoSite_NotBare : PySem.W.kitOne K (.ref c_NoSite) (.ref c_NotBare) = some false)
    (ne_NoSite_NotBare : c_NoSite ≠ c_NotBare)
    (p_NoSite_NotTree : PySem.W.kitOne K (.ref c_NoSite) (.ref c_NotTree) = some false)
    (ne_NoSite_NotTree : c_NoSite ≠ c_NotTree)
    (p_NoSite_TooLong : PySem.W.kitOne K (.ref c_NoSite) (.ref c_TooLong) = some false)
    (ne_NoSite_TooLong : c_NoSite ≠ c_TooLong)
    (p_NoSite_NoBoard : PySem.W.kitOne K (.ref c_NoSite) (.ref c_NoBoard) = some false)
    (ne_NoSite_NoBoard : c_NoSite ≠ c_NoBoard)
    (p_NoExit_NoPlace : PySem.W.kitOne K (.ref c_NoExit) (.ref c_NoPlace) = some false)
    (ne_NoExit_NoPlace : c_NoExit ≠ c_NoPlace)
    (p_NoExit_NoSite : PySem.W.kitOne K (.ref c_NoExit) (.ref c_NoSite) = some false)
    (ne_NoExit_NoSite : c_NoExit ≠ c_NoSite)
    (p_NoExit_NoMarble : PySem.W.kitOne K (.ref c_NoExit) (.ref c_NoMarble) = some false)
    (ne_NoExit_NoMarble : c_NoExit ≠ c_NoMarble)
    (p_NoExit_TooMany : PySem.W.kitOne K (.ref c_NoExit) (.ref c_TooMany) = some false)
    (ne_NoExit_TooMany : c_NoExit ≠ c_TooMany)
    (p_NoExit_NotOpen : PySem.W.kitOne K (.ref c_NoExit) (.ref c_NotOpen) = some false)
    (ne_NoExit_NotOpen : c_NoExit ≠ c_NotOpen)
    (p_NoExit_NotBare : PySem.W.kitOne K (.ref c_NoExit) (.ref c_NotBare) = some false)
    (ne_NoExit_NotBare : c_NoExit ≠ c_NotBare)
    (p_NoExit_NotTree : PySem.W.kitOne K (.ref c_NoExit) (.ref c_NotTree) = some false)
    (ne_NoExit_NotTree : c_NoExit ≠ c_NotTree)
    (p_NoExit_TooLong : PySem.W.kitOne K (.ref c_NoExit) (.ref c_TooLong) = some false)
    (ne_NoExit_TooLong : c_NoExit ≠ c_TooLong)
    (p_NoExit_NoBoard : PySem.W.kitOne K (.ref c_NoExit) (.ref c_NoBoard) = some false)
    (ne_NoExit_NoBoard : c_NoExit ≠ c_NoBoard)
    (p_NoMarble_NoPlace : PySem.W.kitOne K (.ref c_NoMarble) (.ref c_NoPlace) = some false)
    (ne_NoMarble_NoPlace : c_NoMarble ≠ c_NoPlace)
    (p_NoMarble_NoSite : PySem.W.kitOne K (.ref c_NoMarble) (.ref c_NoSite) = some false)
    (ne_NoMarble_NoSite : c_NoMarble ≠ c_NoSite)
    (p_NoMarble_NoExit : PySem.W.kitOne K (.ref c_NoMarble) (.ref c_NoExit) = some false)
    (ne_NoMarble_NoExit : c_NoMarble ≠ c_NoExit)
    (p_NoMarble_TooMany : PySem.W.kitOne K (.ref c_NoMarble) (.ref c_TooMany) = some false)
    (ne_NoMarble_TooMany : c_NoMarble ≠ c_TooMany)
    (p_NoMarble_NotOpen : PySem.W.kitOne K (.ref c_NoMarble) (.ref c_NotOpen) = some false)
    (ne_NoMarble_NotOpen : c_NoMarble ≠ c_NotOpen)
    (p_NoMarble_NotBare : PySem.W.kitOne K (.ref c_NoMarble) (.ref c_NotBare) = some false)
    (ne_NoMarble_NotBare : c_NoMarble ≠ c_NotBare)
    (p_NoMarble_NotTree : PySem.W.kitOne K (.ref c_NoMarble) (.ref c_NotTree) = some false)
    (ne_NoMarble_NotTree : c_NoMarble ≠ c_NotTree)
    (p_NoMarble_TooLong : PySem.W.kitOne K (.ref c_NoMarble) (.ref c_TooLong) = some false)
    (ne_NoMarble_TooLong : c_NoMarble ≠ c_TooLong)
    (p_NoMarble_NoBoard : PySem.W.kitOne K (.ref c_NoMarble) (.ref c_NoBoard) = some false)
    (ne_NoMarble_NoBoard : c_NoMarble ≠ c_NoBoard)
    (p_TooMany_NoPlace : PySem.W.kitOne K (.ref c_TooMany) (.ref c_NoPlace) = some false)
    (ne_TooMany_NoPlace : c_TooMany ≠ c_NoPlace)
    (p_TooMany_NoSite : PySem.W.kitOne K (.ref c_TooMany) (.ref c_NoSite) = some false)
    (ne_TooMany_NoSite : c_TooMany ≠ c_NoSite)
    (p_TooMany_NoExit : PySem.W.kitOne K (.ref c_TooMany) (.ref c_NoExit) = some false)
    (ne_TooMany_NoExit : c_TooMany ≠ c_NoExit)
    (p_TooMany_NoMarble : PySem.W.kitOne K (.ref c_TooMany) (.ref c_NoMarble) = some false)
    (ne_TooMany_NoMarble : c_TooMany ≠ c_NoMarble)
    (p_TooMany_NotOpen : PySem.W.kitOne K (.ref c_TooMany) (.ref c_NotOpen) = some false)
    (ne_TooMany_NotOpen : c_TooMany ≠ c_NotOpen)
    (p_TooMany_NotBare : PySem.W.kitOne K (.ref c_TooMany) (.ref c_NotBare) = some false)
    (ne_TooMany_NotBare : c_TooMany ≠ c_NotBare)
    (p_TooMany_NotTree : PySem.W.kitOne K (.ref c_TooMany) (.ref c_NotTree) = some false)
    (ne_TooMany_NotTree : c_TooMany ≠ c_NotTree)
    (p_TooMany_TooLong : PySem.W.kitOne K (.ref c_TooMany) (.ref c_TooLong) = some false)
    (ne_TooMany_TooLong : c_TooMany ≠ c_TooLong)
    (p_TooMany_NoBoard : PySem.W.kitOne K (.ref c_TooMany) (.ref c_NoBoard) = some false)
    (ne_TooMany_NoBoard : c_TooMany ≠ c_NoBoard)
    (p_NotOpen_NoPlace : PySem.W.kitOne K (.ref c_NotOpen) (.ref c_NoPlace) = some false)
    (ne_NotOpen_NoPlace : c_NotOpen ≠ c_NoPlace)
    (p_NotOpen_NoSite : PySem.W.kitOne K (.ref c_NotOpen) (.ref c_NoSite) = some false)
    (ne_NotOpen_NoSite : c_NotOpen ≠ c_NoSite)
    (p_NotOpen_NoExit : PySem.W.kitOne K (.ref c_NotOpen) (.ref c_NoExit) = some false)
    (ne_NotOpen_NoExit : c_NotOpen ≠ c_NoExit)
    (p_NotOpen_NoMarble : PySem.W.kitOne K (.ref c_NotOpen) (.ref c_NoMarble) = some false)
    (ne_NotOpen_NoMarble : c_NotOpen ≠ c_NoMarble)
    (p_NotOpen_TooMany : PySem.W.kitOne K (.ref c_NotOpen) (.ref c_TooMany) = some false)
    (ne_NotOpen_TooMany : c_NotOpen ≠ c_TooMany)
    (p_NotOpen_NotBare : PySem.W.kitOne K (.ref c_NotOpen) (.ref c_NotBare) = some false)
    (ne_NotOpen_NotBare : c_NotOpen ≠ c_NotBare)
    (p_NotOpen_NotTree : PySem.W.kitOne K (.ref c_NotOpen) (.ref c_NotTree) = some false)
    (ne_NotOpen_NotTree : c_NotOpen ≠ c_NotTree)
    (p_NotOpen_TooLong : PySem.W.kitOne K (.ref c_NotOpen) (.ref c_TooLong) = some false)
    (ne_NotOpen_TooLong : c_NotOpen ≠ c_TooLong)
    (p_NotOpen_NoBoard : PySem.W.kitOne K (.ref c_NotOpen) (.ref c_NoBoard) = some false)
    (ne_NotOpen_NoBoard : c_NotOpen ≠ c_NoBoard)
    (p_NotBare_NoPlace : PySem.W.kitOne K (.ref c_NotBare) (.ref c_NoPlace) = some false)
    (ne_NotBare_NoPlace : c_NotBare ≠ c_NoPlace)
    (p_NotBare_NoSite : PySem.W.kitOne K (.ref c_NotBare) (.ref c_NoSite) = some false)
    (ne_NotBare_NoSite : c_NotBare ≠ c_NoSite)
    (p_NotBare_NoExit : PySem.W.kitOne K (.ref c_NotBare) (.ref c_NoExit) = some false)
    (ne_NotBare_NoExit : c_NotBare ≠ c_NoExit)
    (p_NotBare_NoMarble : PySem.W.kitOne K (.ref c_NotBare) (.ref c_NoMarble) = some false)
    (ne_NotBare_NoMarble : c_NotBare ≠ c_NoMarble)
    (p_NotBare_TooMany : PySem.W.kitOne K (.ref c_NotBare) (.ref c_TooMany) = some false)
    (ne_NotBare_TooMany : c_NotBare ≠ c_TooMany)
    (p_NotBare_NotOpen : PySem.W.kitOne K (.ref c_NotBare) (.ref c_NotOpen) = some false)
    (ne_NotBare_NotOpen : c_NotBare ≠ c_NotOpen)
    (p_NotBare_NotTree : PySem.W.kitOne K (.ref c_NotBare) (.ref c_NotTree) = some false)
    (ne_NotBare_NotTree : c_NotBare ≠ c_NotTree)
    (p_NotBare_TooLong : PySem.W.kitOne K (.ref c_NotBare) (.ref c_TooLong) = some false)
    (ne_NotBare_TooLong : c_NotBare ≠ c_TooLong)
    (p_NotBare_NoBoard : PySem.W.kitOne K (.ref c_NotBare) (.ref c_NoBoard) = some false)
    (ne_NotBare_NoBoard : c_NotBare ≠ c_NoBoard)
    (p_NotTree_NoPlace : PySem.W.kitOne K (.ref c_NotTree) (.ref c_NoPlace) = some false)
    (ne_NotTree_NoPlace : c_NotTree ≠ c_NoPlace)
    (p_NotTree_NoSite : PySem.W.kitOne K (.ref c_NotTree) (.ref c_NoSite) = some false)
    (ne_NotTree_NoSite : c_NotTree ≠ c_NoSite)
    (p_NotTree_NoExit : PySem.W.kitOne K (.ref c_NotTree) (.ref c_NoExit) = some false)
    (ne_NotTree_NoExit : c_NotTree ≠ c_NoExit)
    (p_NotTree_NoMarble : PySem.W.kitOne K (.ref c_NotTree) (.ref c_NoMarble) = some false)
    (ne_NotTree_NoMarble : c_NotTree ≠ c_NoMarble)
    (p_NotTree_TooMany : PySem.W.kitOne K (.ref c_NotTree) (.ref c_TooMany) = some false)
    (ne_NotTree_TooMany : c_NotTree ≠ c_TooMany)
    (p_NotTree_NotOpen : PySem.W.kitOne K (.ref c_NotTree) (.ref c_NotOpen) = some false)
    (ne_NotTree_NotOpen : c_NotTree ≠ c_NotOpen)
    (p_NotTree_NotBare : PySem.W.kitOne K (.ref c_NotTree) (.ref c_NotBare) = some false)
    (ne_NotTree_NotBare : c_NotTree ≠ c_NotBare)
    (p_NotTree_TooLong : PySem.W.kitOne K (.ref c_NotTree) (.ref c_TooLong) = some false)
    (ne_NotTree_TooLong : c_NotTree ≠ c_TooLong)
    (p_NotTree_NoBoard : PySem.W.kitOne K (.ref c_NotTree) (.ref c_NoBoard) = some false)
    (ne_NotTree_NoBoard : c_NotTree ≠ c_NoBoard)
    (p_TooLong_NoPlace : PySem.W.kitOne K (.ref c_TooLong) (.ref c_NoPlace) = some false)
    (ne_TooLong_NoPlace : c_TooLong ≠ c_NoPlace)
    (p_TooLong_NoSite : PySem.W.kitOne K (.ref c_TooLong) (.ref c_NoSite) = some false)
    (ne_TooLong_NoSite : c_TooLong ≠ c_NoSite)
    (p_TooLong_NoExit : PySem.W.kitOne K (.ref c_TooLong) (.ref c_NoExit) = some false)
    (ne_TooLong_NoExit : c_TooLong ≠ c_NoExit)
    (p_TooLong_NoMarble : PySem.W.kitOne K (.ref c_TooLong) (.ref c_NoMarble) = some false)
    (ne_TooLong_NoMarble : c_TooLong ≠ c_NoMarble)
    (p_TooLong_TooMany : PySem.W.kitOne K (.ref c_TooLong) (.ref c_TooMany) = some false)
    (ne_TooLong_TooMany : c_TooLong ≠ c_TooMany)
    (p_TooLong_NotOpen : PySem.W.kitOne K (.ref c_TooLong) (.ref c_NotOpen) = some false)
    (ne_TooLong_NotOpen : c_TooLong ≠ c_NotOpen)
    (p_TooLong_NotBare : PySem.W.kitOne K (.ref c_TooLong) (.ref c_NotBare) = some false)
    (ne_TooLong_NotBare : c_TooLong ≠ c_NotBare)
    (p_TooLong_NotTree : PySem.W.kitOne K (.ref c_TooLong) (.ref c_NotTree) = some false)
    (ne_TooLong_NotTree : c_TooLong ≠ c_NotTree)
    (p_TooLong_NoBoard : PySem.W.kitOne K (.ref c_TooLong) (.ref c_NoBoard) = some false)
    (ne_TooLong_NoBoard : c_TooLong ≠ c_NoBoard)
    (p_NoBoard_NoPlace : PySem.W.kitOne K (.ref c_NoBoard) (.ref c_NoPlace) = some false)
    (ne_NoBoard_NoPlace : c_NoBoard ≠ c_NoPlace)
    (p_NoBoard_NoSite : PySem.W.kitOne K (.ref c_NoBoard) (.ref c_NoSite) = some false)
    (ne_NoBoard_NoSite : c_NoBoard ≠ c_NoSite)
    (p_NoBoard_NoExit : PySem.W.kitOne K (.ref c_NoBoard) (.ref c_NoExit) = some false)
    (ne_NoBoard_NoExit : c_NoBoard ≠ c_NoExit)
    (p_NoBoard_NoMarble : PySem.W.kitOne K (.ref c_NoBoard) (.ref c_NoMarble) = some false)
    (ne_NoBoard_NoMarble : c_NoBoard ≠ c_NoMarble)
    (p_NoBoard_TooMany : PySem.W.kitOne K (.ref c_NoBoard) (.ref c_TooMany) = some false)
    (ne_NoBoard_TooMany : c_NoBoard ≠ c_TooMany)
    (p_NoBoard_NotOpen : PySem.W.kitOne K (.ref c_NoBoard) (.ref c_NotOpen) = some false)
    (ne_NoBoard_NotOpen : c_NoBoard ≠ c_NotOpen)
    (p_NoBoard_NotBare : PySem.W.kitOne K (.ref c_NoBoard) (.ref c_NotBare) = some false)
    (ne_NoBoard_NotBare : c_NoBoard ≠ c_NotBare)
    (p_NoBoard_NotTree : PySem.W.kitOne K (.ref c_NoBoard) (.ref c_NotTree) = some false)
    (ne_NoBoard_NotTree : c_NoBoard ≠ c_NotTree)
    (p_NoBoard_TooLong : PySem.W.kitOne K (.ref c_NoBoard) (.ref c_TooLong) = some false)
    (ne_NoBoard_TooLong : c_NoBoard ≠ c_TooLong)
    (y1_NoPlace : PySem.W.findIn K (.ref c_NoPlace) "__getattribute__" = some (some (.builtin "BaseException.__getattribute__"))) (y7_NoPlace : PySem.W.findIn K (.ref c_NoPlace) "__getattr__" = some none) (y2_NoPlace : PySem.W.hasDictIn K c_NoPlace = true) (y3_NoPlace : PySem.W.findIn K (.ref c_NoPlace) "__class__" = some (some (.builtin "object.__class__"))) (y6_NoPlace : PySem.W.mroIn K c_NoPlace (.type "object") = some true)
    (y1_NoSite : PySem.W.findIn K (.ref c_NoSite) "__getattribute__" = some (some (.builtin "BaseException.__getattribute__"))) (y7_NoSite : PySem.W.findIn K (.ref c_NoSite) "__getattr__" = some none) (y2_NoSite : PySem.W.hasDictIn K c_NoSite = true) (y3_NoSite : PySem.W.findIn K (.ref c_NoSite) "__class__" = some (some (.builtin "object.__class__"))) (y6_NoSite : PySem.W.mroIn K c_NoSite (.type "object") = some true)
    (y1_NoExit : PySem.W.findIn K (.ref c_NoExit) "__getattribute__" = some (some (.builtin "BaseException.__getattribute__"))) (y7_NoExit : PySem.W.findIn K (.ref c_NoExit) "__getattr__" = some none) (y2_NoExit : PySem.W.hasDictIn K c_NoExit = true) (y3_NoExit : PySem.W.findIn K (.ref c_NoExit) "__class__" = some (some (.builtin "object.__class__"))) (y6_NoExit : PySem.W.mroIn K c_NoExit (.type "object") = some true)
    (y1_NoMarble : PySem.W.findIn K (.ref c_NoMarble) "__getattribute__" = some (some (.builtin "BaseException.__getattribute__"))) (y7_NoMarble : PySem.W.findIn K (.ref c_NoMarble) "__getattr__" = some none) (y2_NoMarble : PySem.W.hasDictIn K c_NoMarble = true) (y3_NoMarble : PySem.W.findIn K (.ref c_NoMarble) "__class__" = some (some (.builtin "object.__class__"))) (y6_NoMarble : PySem.W.mroIn K c_NoMarble (.type "object") = some true)
    (y1_TooMany : PySem.W.findIn K (.ref c_TooMany) "__getattribute__" = some (some (.builtin "BaseException.__getattribute__"))) (y7_TooMany : PySem.W.findIn K (.ref c_TooMany) "__getattr__" = some none) (y2_TooMany : PySem.W.hasDictIn K c_TooMany = true) (y3_TooMany : PySem.W.findIn K (.ref c_TooMany) "__class__" = some (some (.builtin "object.__class__"))) (y6_TooMany : PySem.W.mroIn K c_TooMany (.type "object") = some true)
    (y1_NotOpen : PySem.W.findIn K (.ref c_NotOpen) "__getattribute__" = some (some (.builtin "BaseException.__getattribute__"))) (y7_NotOpen : PySem.W.findIn K (.ref c_NotOpen) "__getattr__" = some none) (y2_NotOpen : PySem.W.hasDictIn K c_NotOpen = true) (y3_NotOpen : PySem.W.findIn K (.ref c_NotOpen) "__class__" = some (some (.builtin "object.__class__"))) (y6_NotOpen : PySem.W.mroIn K c_NotOpen (.type "object") = some true)
    (y1_NotBare : PySem.W.findIn K (.ref c_NotBare) "__getattribute__" = some (some (.builtin "BaseException.__getattribute__"))) (y7_NotBare : PySem.W.findIn K (.ref c_NotBare) "__getattr__" = some none) (y2_NotBare : PySem.W.hasDictIn K c_NotBare = true) (y3_NotBare : PySem.W.findIn K (.ref c_NotBare) "__class__" = some (some (.builtin "object.__class__"))) (y6_NotBare : PySem.W.mroIn K c_NotBare (.type "object") = some true)
    (y1_NotTree : PySem.W.findIn K (.ref c_NotTree) "__getattribute__" = some (some (.builtin "BaseException.__getattribute__"))) (y7_NotTree : PySem.W.findIn K (.ref c_NotTree) "__getattr__" = some none) (y2_NotTree : PySem.W.hasDictIn K c_NotTree = true) (y3_NotTree : PySem.W.findIn K (.ref c_NotTree) "__class__" = some (some (.builtin "object.__class__"))) (y6_NotTree : PySem.W.mroIn K c_NotTree (.type "object") = some true)
    (y1_TooLong : PySem.W.findIn K (.ref c_TooLong) "__getattribute__" = some (some (.builtin "BaseException.__getattribute__"))) (y7_TooLong : PySem.W.findIn K (.ref c_TooLong) "__getattr__" = some none) (y2_TooLong : PySem.W.hasDictIn K c_TooLong = true) (y3_TooLong : PySem.W.findIn K (.ref c_TooLong) "__class__" = some (some (.builtin "object.__class__"))) (y6_TooLong : PySem.W.mroIn K c_TooLong (.type "object") = some true)
    (y1_NoBoard : PySem.W.findIn K (.ref c_NoBoard) "__getattribute__" = some (some (.builtin "BaseException.__getattribute__"))) (y7_NoBoard : PySem.W.findIn K (.ref c_NoBoard) "__getattr__" = some none) (y2_NoBoard : PySem.W.hasDictIn K c_NoBoard = true) (y3_NoBoard : PySem.W.findIn K (.ref c_NoBoard) "__class__" = some (some (.builtin "object.__class__"))) (y6_NoBoard : PySem.W.mroIn K c_NoBoard (.type "object") = some true)
    (y4 : PySem.W.specialIn K (.builtin "object.__class__") "__get__" = some (some (.builtin "getset_descriptor.__get__"))) (y5 : PySem.W.takesIn K (.builtin "object.__class__") = some true)
    (qt_NoPlace_ValueError : PySem.W.kitOne K (.ref c_NoPlace) (.type "ValueError") = some true)
    (qt_NoSite_ValueError : PySem.W.kitOne K (.ref c_NoSite) (.type "ValueError") = some true)
    (qt_NoExit_ValueError : PySem.W.kitOne K (.ref c_NoExit) (.type "ValueError") = some true)
    (qt_NoMarble_ValueError : PySem.W.kitOne K (.ref c_NoMarble) (.type "ValueError") = some true)
    (qt_TooMany_ValueError : PySem.W.kitOne K (.ref c_TooMany) (.type "ValueError") = some true)
    (qt_NotOpen_ValueError : PySem.W.kitOne K (.ref c_NotOpen) (.type "ValueError") = some true)
    (qt_NotBare_ValueError : PySem.W.kitOne K (.ref c_NotBare) (.type "ValueError") = some true)
    (qt_NotTree_ValueError : PySem.W.kitOne K (.ref c_NotTree) (.type "ValueError") = some true)
    (qt_TooLong_ValueError : PySem.W.kitOne K (.ref c_TooLong) (.type "ValueError") = some true)
    (qt_NoBoard_ValueError : PySem.W.kitOne K (.ref c_NoBoard) (.type "ValueError") = some true)
    (q_int_bool : PySem.W.kitOne K (.type "int") (.type "bool") = some false)
    : ∃ fd : FuncData, (∀ (s : Shared) (v : Value), BindsTo s fd ⟨[v], []⟩ [("script", v)]) ∧ ∀ base : Heap, K.In base → base.Ns mainGlobals mg → FnOk l.prog w K mg base CX0 10 fa fd ["script"] (spLaw K) := by
  have e := hfa.symm.trans (PySem.W.mg_of X G a_law)
  cases e
  have F_check_rows := fun_mk (st := s_check_rows) l_check_rows c_check_rows k_check_rows
  have b_check_rows := F_check_rows.binds1 (p0 := "rows") fun _ _ _ _ _ _ _ => rfl
  have F_check_row := fun_mk (st := s_check_row) l_check_row c_check_row k_check_row
  have b_check_row := F_check_row.binds2 (p0 := "row") (p1 := "sites") fun _ _ _ _ _ _ _ _ => rfl
  have F_check_site := fun_mk (st := s_check_site) l_check_site c_check_site k_check_site
  have b_check_site := F_check_site.binds2 (p0 := "board") (p1 := "at") fun _ _ _ _ _ _ _ _ => rfl
  have F_Binit := fun_mk (st := s_Binit) l_Binit c_Binit k_Binit
  have b_Binit := F_Binit.binds2 (p0 := "self") (p1 := "rows") fun _ _ _ _ _ _ _ _ => rfl
  have F_Bturn_to := fun_mk (st := s_Bturn_to) l_Bturn_to c_Bturn_to k_Bturn_to
  have b_Bturn_to := F_Bturn_to.binds3 (p0 := "self") (p1 := "at") (p2 := "place") fun _ _ _ _ _ _ _ _ _ => rfl
  have F_Bload := fun_mk (st := s_Bload) l_Bload c_Bload k_Bload
  have b_Bload := F_Bload.binds3 (p0 := "self") (p1 := "at") (p2 := "many") fun _ _ _ _ _ _ _ _ _ => rfl
  have F_Btwin := fun_mk (st := s_Btwin) l_Btwin c_Btwin k_Btwin
  have b_Btwin := F_Btwin.binds1 (p0 := "self") fun _ _ _ _ _ _ _ => rfl
  have F_Bstand_like := fun_mk (st := s_Bstand_like) l_Bstand_like c_Bstand_like k_Bstand_like
  have b_Bstand_like := F_Bstand_like.binds2 (p0 := "self") (p1 := "other") fun _ _ _ _ _ _ _ _ => rfl
  have F_reached := fun_mk (st := s_reached) l_reached c_reached k_reached
  have b_reached := F_reached.binds1 (p0 := "rows") fun _ _ _ _ _ _ _ => rfl
  have F_is_open := fun_mk (st := s_is_open) l_is_open c_is_open k_is_open
  have b_is_open := F_is_open.binds1 (p0 := "board") fun _ _ _ _ _ _ _ => rfl
  have F_check_open := fun_mk (st := s_check_open) l_check_open c_check_open k_check_open
  have b_check_open := F_check_open.binds1 (p0 := "board") fun _ _ _ _ _ _ _ => rfl
  have F_last_exit := fun_mk (st := s_last_exit) l_last_exit c_last_exit k_last_exit
  have b_last_exit := F_last_exit.binds2 (p0 := "board") (p1 := "at") fun _ _ _ _ _ _ _ _ => rfl
  have F_is_tree := fun_mk (st := s_is_tree) l_is_tree c_is_tree k_is_tree
  have b_is_tree := F_is_tree.binds1 (p0 := "board") fun _ _ _ _ _ _ _ => rfl
  have F_step := fun_mk (st := s_step) l_step c_step k_step
  have b_step := F_step.binds2 (p0 := "board") (p1 := "at") fun _ _ _ _ _ _ _ _ => rfl
  have F_loaded := fun_mk (st := s_loaded) l_loaded c_loaded k_loaded
  have b_loaded := F_loaded.binds1 (p0 := "board") fun _ _ _ _ _ _ _ => rfl
  have F_run := fun_mk (st := s_run) l_run c_run k_run
  have b_run := F_run.binds2 (p0 := "board") (p1 := "most") fun _ _ _ _ _ _ _ _ => rfl
  have F_check_back := fun_mk (st := s_check_back) l_check_back c_check_back k_check_back
  have b_check_back := F_check_back.binds2 (p0 := "board") (p1 := "at") fun _ _ _ _ _ _ _ _ => rfl
  have F_run_back := fun_mk (st := s_run_back) l_run_back c_run_back k_run_back
  have b_run_back := F_run_back.binds3 (p0 := "board") (p1 := "at") (p2 := "most") fun _ _ _ _ _ _ _ _ _ => rfl
  have F_turn_back := fun_mk (st := s_turn_back) l_turn_back c_turn_back k_turn_back
  have b_turn_back := F_turn_back.binds3 (p0 := "board") (p1 := "start") (p2 := "most") fun _ _ _ _ _ _ _ _ _ => rfl
  have F_place_ahead := fun_mk (st := s_place_ahead) l_place_ahead c_place_ahead k_place_ahead
  have b_place_ahead := F_place_ahead.binds3 (p0 := "board") (p1 := "start") (p2 := "goal") fun _ _ _ _ _ _ _ _ _ => rfl
  have F_leads_to := fun_mk (st := s_leads_to) l_leads_to c_leads_to k_leads_to
  have b_leads_to := F_leads_to.binds3 (p0 := "board") (p1 := "start") (p2 := "here") fun _ _ _ _ _ _ _ _ _ => rfl
  have F_read := fun_mk (st := s_read) l_read c_read k_read
  have b_read := F_read.binds1 (p0 := "text") fun _ _ _ _ _ _ _ => rfl
  have F_told := fun_mk (st := s_told) l_told c_told k_told
  have b_told := F_told.binds2 (p0 := "rows") (p1 := "numbers") fun _ _ _ _ _ _ _ _ => rfl
  have F_read_head := fun_mk (st := s_read_head) l_read_head c_read_head k_read_head
  have b_read_head := F_read_head.binds1 (p0 := "words") fun _ _ _ _ _ _ _ => rfl
  have F_read_numbers := fun_mk (st := s_read_numbers) l_read_numbers c_read_numbers k_read_numbers
  have b_read_numbers := F_read_numbers.binds1 (p0 := "words") fun _ _ _ _ _ _ _ => rfl
  have F_read_row := fun_mk (st := s_read_row) l_read_row c_read_row k_read_row
  have b_read_row := F_read_row.binds1 (p0 := "words") fun _ _ _ _ _ _ _ => rfl
  have F_read_way := fun_mk (st := s_read_way) l_read_way c_read_way k_read_way
  have b_read_way := F_read_way.binds1 (p0 := "word") fun _ _ _ _ _ _ _ => rfl
  have F_read_number := fun_mk (st := s_read_number) l_read_number c_read_number k_read_number
  have b_read_number := F_read_number.binds1 (p0 := "word") fun _ _ _ _ _ _ _ => rfl
  have F_drawn := fun_mk (st := s_drawn) l_drawn c_drawn k_drawn
  have b_drawn := F_drawn.binds3 (p0 := "script") (p1 := "k") (p2 := "many") fun _ _ _ _ _ _ _ _ _ => rfl
  have F_marks := fun_mk (st := s_marks) l_marks c_marks k_marks
  have b_marks := F_marks.binds1 (p0 := "e") fun _ _ _ _ _ _ _ => rfl
  have F_deed := fun_mk (st := s_deed) l_deed c_deed k_deed
  have b_deed := F_deed.binds4 (p0 := "board") (p1 := "way") (p2 := "at") (p3 := "size") fun _ _ _ _ _ _ _ _ _ _ => rfl
  have F_law := fun_mk (st := s_law) l_law c_law k_law
  have b_law := F_law.binds1 (p0 := "script") fun _ _ _ _ _ _ _ => rfl
  have T : Txt K mg { C := C, f_check_rows := f_check_rows, fd_check_rows := PySem.W.fnOf "check_rows" "check_rows" (defArgs s_check_rows) (defBody s_check_rows) (defScope s_check_rows) .none kV_check_rows dc_check_rows pm_check_rows an_check_rows cd_check_rows ct_check_rows, f_check_row := f_check_row, fd_check_row := PySem.W.fnOf "check_row" "check_row" (defArgs s_check_row) (defBody s_check_row) (defScope s_check_row) .none kV_check_row dc_check_row pm_check_row an_check_row cd_check_row ct_check_row, f_check_site := f_check_site, fd_check_site := PySem.W.fnOf "check_site" "check_site" (defArgs s_check_site) (defBody s_check_site) (defScope s_check_site) .none kV_check_site dc_check_site pm_check_site an_check_site cd_check_site ct_check_site, f_Binit := f_Binit, fd_Binit := PySem.W.fnOf "__init__" "Board.__init__" (defArgs s_Binit) (defBody s_Binit) (defScope s_Binit) .none kV_Binit dc_Binit pm_Binit an_Binit cd_Binit ct_Binit, f_Bturn_to := f_Bturn_to, fd_Bturn_to := PySem.W.fnOf "turn_to" "Board.turn_to" (defArgs s_Bturn_to) (defBody s_Bturn_to) (defScope s_Bturn_to) .none kV_Bturn_to dc_Bturn_to pm_Bturn_to an_Bturn_to cd_Bturn_to ct_Bturn_to, f_Bload := f_Bload, fd_Bload := PySem.W.fnOf "load" "Board.load" (defArgs s_Bload) (defBody s_Bload) (defScope s_Bload) .none kV_Bload dc_Bload pm_Bload an_Bload cd_Bload ct_Bload, f_Btwin := f_Btwin, fd_Btwin := PySem.W.fnOf "twin" "Board.twin" (defArgs s_Btwin) (defBody s_Btwin) (defScope s_Btwin) .none kV_Btwin dc_Btwin pm_Btwin an_Btwin cd_Btwin ct_Btwin, f_Bstand_like := f_Bstand_like, fd_Bstand_like := PySem.W.fnOf "stand_like" "Board.stand_like" (defArgs s_Bstand_like) (defBody s_Bstand_like) (defScope s_Bstand_like) .none kV_Bstand_like dc_Bstand_like pm_Bstand_like an_Bstand_like cd_Bstand_like ct_Bstand_like, f_reached := f_reached, fd_reached := PySem.W.fnOf "reached" "reached" (defArgs s_reached) (defBody s_reached) (defScope s_reached) .none kV_reached dc_reached pm_reached an_reached cd_reached ct_reached, f_is_open := f_is_open, fd_is_open := PySem.W.fnOf "is_open" "is_open" (defArgs s_is_open) (defBody s_is_open) (defScope s_is_open) .none kV_is_open dc_is_open pm_is_open an_is_open cd_is_open ct_is_open, f_check_open := f_check_open, fd_check_open := PySem.W.fnOf "check_open" "check_open" (defArgs s_check_open) (defBody s_check_open) (defScope s_check_open) .none kV_check_open dc_check_open pm_check_open an_check_open cd_check_open ct_check_open, f_last_exit := f_last_exit, fd_last_exit := PySem.W.fnOf "last_exit" "last_exit" (defArgs s_last_exit) (defBody s_last_exit) (defScope s_last_exit) .none kV_last_exit dc_last_exit pm_last_exit an_last_exit cd_last_exit ct_last_exit, f_is_tree := f_is_tree, fd_is_tree := PySem.W.fnOf "is_tree" "is_tree" (defArgs s_is_tree) (defBody s_is_tree) (defScope s_is_tree) .none kV_is_tree dc_is_tree pm_is_tree an_is_tree cd_is_tree ct_is_tree, f_step := f_step, fd_step := PySem.W.fnOf "step" "step" (defArgs s_step) (defBody s_step) (defScope s_step) .none kV_step dc_step pm_step an_step cd_step ct_step, f_loaded := f_loaded, fd_loaded := PySem.W.fnOf "loaded" "loaded" (defArgs s_loaded) (defBody s_loaded) (defScope s_loaded) .none kV_loaded dc_loaded pm_loaded an_loaded cd_loaded ct_loaded, f_run := f_run, fd_run := PySem.W.fnOf "run" "run" (defArgs s_run) (defBody s_run) (defScope s_run) .none kV_run dc_run pm_run an_run cd_run ct_run, f_check_back := f_check_back, fd_check_back := PySem.W.fnOf "check_back" "check_back" (defArgs s_check_back) (defBody s_check_back) (defScope s_check_back) .none kV_check_back dc_check_back pm_check_back an_check_back cd_check_back ct_check_back, f_run_back := f_run_back, fd_run_back := PySem.W.fnOf "run_back" "run_back" (defArgs s_run_back) (defBody s_run_back) (defScope s_run_back) .none kV_run_back dc_run_back pm_run_back an_run_back cd_run_back ct_run_back, f_turn_back := f_turn_back, fd_turn_back := PySem.W.fnOf "turn_back" "turn_back" (defArgs s_turn_back) (defBody s_turn_back) (defScope s_turn_back) .none kV_turn_back dc_turn_back pm_turn_back an_turn_back cd_turn_back ct_turn_back, f_place_ahead := f_place_ahead, fd_place_ahead := PySem.W.fnOf "place_ahead" "place_ahead" (defArgs s_place_ahead) (defBody s_place_ahead) (defScope s_place_ahead) .none kV_place_ahead dc_place_ahead pm_place_ahead an_place_ahead cd_place_ahead ct_place_ahead, f_leads_to := f_leads_to, fd_leads_to := PySem.W.fnOf "leads_to" "leads_to" (defArgs s_leads_to) (defBody s_leads_to) (defScope s_leads_to) .none kV_leads_to dc_leads_to pm_leads_to an_leads_to cd_leads_to ct_leads_to, f_read := f_read, fd_read := PySem.W.fnOf "read" "read" (defArgs s_read) (defBody s_read) (defScope s_read) .none kV_read dc_read pm_read an_read cd_read ct_read, f_told := f_told, fd_told := PySem.W.fnOf "told" "told" (defArgs s_told) (defBody s_told) (defScope s_told) .none kV_told dc_told pm_told an_told cd_told ct_told, f_read_head := f_read_head, fd_read_head := PySem.W.fnOf "read_head" "read_head" (defArgs s_read_head) (defBody s_read_head) (defScope s_read_head) .none kV_read_head dc_read_head pm_read_head an_read_head cd_read_head ct_read_head, f_read_numbers := f_read_numbers, fd_read_numbers := PySem.W.fnOf "read_numbers" "read_numbers" (defArgs s_read_numbers) (defBody s_read_numbers) (defScope s_read_numbers) .none kV_read_numbers dc_read_numbers pm_read_numbers an_read_numbers cd_read_numbers ct_read_numbers, f_read_row := f_read_row, fd_read_row := PySem.W.fnOf "read_row" "read_row" (defArgs s_read_row) (defBody s_read_row) (defScope s_read_row) .none kV_read_row dc_read_row pm_read_row an_read_row cd_read_row ct_read_row, f_read_way := f_read_way, fd_read_way := PySem.W.fnOf "read_way" "read_way" (defArgs s_read_way) (defBody s_read_way) (defScope s_read_way) .none kV_read_way dc_read_way pm_read_way an_read_way cd_read_way ct_read_way, f_read_number := f_read_number, fd_read_number := PySem.W.fnOf "read_number" "read_number" (defArgs s_read_number) (defBody s_read_number) (defScope s_read_number) .none kV_read_number dc_read_number pm_read_number an_read_number cd_read_number ct_read_number, f_drawn := f_drawn, fd_drawn := PySem.W.fnOf "_law_drawn" "_law_drawn" (defArgs s_drawn) (defBody s_drawn) (defScope s_drawn) .none kV_drawn dc_drawn pm_drawn an_drawn cd_drawn ct_drawn, f_marks := f_marks, fd_marks := PySem.W.fnOf "_law_marks" "_law_marks" (defArgs s_marks) (defBody s_marks) (defScope s_marks) .none kV_marks dc_marks pm_marks an_marks cd_marks ct_marks, f_deed := f_deed, fd_deed := PySem.W.fnOf "_law_deed" "_law_deed" (defArgs s_deed) (defBody s_deed) (defScope s_deed) .none kV_deed dc_deed pm_deed an_deed cd_deed ct_deed, f_law := fa, fd_law := PySem.W.fnOf "law" "law" (defArgs s_law) (defBody s_law) (defScope s_law) .none kV_law dc_law pm_law an_law cd_law ct_law, t_PIT := t_PIT, t_MOST_SITES := t_MOST_SITES, t_MOST_EXITS := t_MOST_EXITS, t_MOST_MARBLES := t_MOST_MARBLES, t_HEAD := t_HEAD, t_MARK := t_MARK, t_PIT_WORD := t_PIT_WORD, t_FIGURES := t_FIGURES, t_MOST_FIGURES := t_MOST_FIGURES, c_NoPlace := c_NoPlace, c_NoSite := c_NoSite, c_NoExit := c_NoExit, c_NoMarble := c_NoMarble, c_TooMany := c_TooMany, c_NotOpen := c_NotOpen, c_NotBare := c_NotBare, c_NotTree := c_NotTree, c_TooLong := c_TooLong, c_NoBoard := c_NoBoard, c_BoardError := c_BoardError } := { F_check_rows := F_check_rows, m_check_rows := PySem.W.mg_of X G a_check_rows, k_check_rows := k_check_rows, b_check_rows := b_check_rows, F_check_row := F_check_row, m_check_row := PySem.W.mg_of X G a_check_row, k_check_row := k_check_row, b_check_row := b_check_row, F_check_site := F_check_site, m_check_site := PySem.W.mg_of X G a_check_site, k_check_site := k_check_site, b_check_site := b_check_site, F_Binit := F_Binit, mk_Board := ⟨mk, a_Binit, i_Binit, kc⟩, bi_Board := b_Binit, F_Bturn_to := F_Bturn_to, mt_turn_to := ⟨a_Bturn_to, i_Bturn_to, k_Bturn_to⟩, bm_turn_to := b_Bturn_to, F_Bload := F_Bload, mt_load := ⟨a_Bload, i_Bload, k_Bload⟩, bm_load := b_Bload, F_Btwin := F_Btwin, mt_twin := ⟨a_Btwin, i_Btwin, k_Btwin⟩, bm_twin := b_Btwin, F_Bstand_like := F_Bstand_like, mt_stand_like := ⟨a_Bstand_like, i_Bstand_like, k_Bstand_like⟩, bm_stand_like := b_Bstand_like, F_reached := F_reached, m_reached := PySem.W.mg_of X G a_reached, k_reached := k_reached, b_reached := b_reached, F_is_open := F_is_open, m_is_open := PySem.W.mg_of X G a_is_open, k_is_open := k_is_open, b_is_open := b_is_open, F_check_open := F_check_open, m_check_open := PySem.W.mg_of X G a_check_open, k_check_open := k_check_open, b_check_open := b_check_open, F_last_exit := F_last_exit, m_last_exit := PySem.W.mg_of X G a_last_exit, k_last_exit := k_last_exit, b_last_exit := b_last_exit, F_is_tree := F_is_tree, m_is_tree := PySem.W.mg_of X G a_is_tree, k_is_tree := k_is_tree, b_is_tree := b_is_tree, F_step := F_step, m_step := PySem.W.mg_of X G a_step, k_step := k_step, b_step := b_step, F_loaded := F_loaded, m_loaded := PySem.W.mg_of X G a_loaded, k_loaded := k_loaded, b_loaded := b_loaded, F_run := F_run, m_run := PySem.W.mg_of X G a_run, k_run := k_run, b_run := b_run, F_check_back := F_check_back, m_check_back := PySem.W.mg_of X G a_check_back, k_check_back := k_check_back, b_check_back := b_check_back, F_run_back := F_run_back, m_run_back := PySem.W.mg_of X G a_run_back, k_run_back := k_run_back, b_run_back := b_run_back, F_turn_back := F_turn_back, m_turn_back := PySem.W.mg_of X G a_turn_back, k_turn_back := k_turn_back, b_turn_back := b_turn_back, F_place_ahead := F_place_ahead, m_place_ahead := PySem.W.mg_of X G a_place_ahead, k_place_ahead := k_place_ahead, b_place_ahead := b_place_ahead, F_leads_to := F_leads_to, m_leads_to := PySem.W.mg_of X G a_leads_to, k_leads_to := k_leads_to, b_leads_to := b_leads_to, F_read := F_read, m_read := PySem.W.mg_of X G a_read, k_read := k_read, b_read := b_read, F_told := F_told, m_told := PySem.W.mg_of X G a_told, k_told := k_told, b_told := b_told, F_read_head := F_read_head, m_read_head := PySem.W.mg_of X G a_read_head, k_read_head := k_read_head, b_read_head := b_read_head, F_read_numbers := F_read_numbers, m_read_numbers := PySem.W.mg_of X G a_read_numbers, k_read_numbers := k_read_numbers, b_read_numbers := b_read_numbers, F_read_row := F_read_row, m_read_row := PySem.W.mg_of X G a_read_row, k_read_row := k_read_row, b_read_row := b_read_row, F_read_way := F_read_way, m_read_way := PySem.W.mg_of X G a_read_way, k_read_way := k_read_way, b_read_way := b_read_way, F_read_number := F_read_number, m_read_number := PySem.W.mg_of X G a_read_number, k_read_number := k_read_number, b_read_number := b_read_number, F_drawn := F_drawn, m__law_drawn := PySem.W.mg_of X G a_drawn, k__law_drawn := k_drawn, b__law_drawn := b_drawn, F_marks := F_marks, m__law_marks := PySem.W.mg_of X G a_marks, k__law_marks := k_marks, b__law_marks := b_marks, F_deed := F_deed, m__law_deed := PySem.W.mg_of X G a_deed, k__law_deed := k_deed, b__law_deed := b_deed, F_law := F_law, m_law := PySem.W.mg_of X G a_law, k_law := k_law, b_law := b_law, m_Board := PySem.W.mg_of X G aC, cl_Board := ⟨pg, hd, po, sa⟩, na_rows := na_rows, na_turns := na_turns, na_loads := na_loads, na_steps := na_steps, na_taken := na_taken, n_len := PySem.W.mg_none_of X G z_len, n_range := PySem.W.mg_none_of X G z_range, n_isinstance := PySem.W.mg_none_of X G z_isinstance, n_int := PySem.W.mg_none_of X G z_int, n_list := PySem.W.mg_none_of X G z_list, n_sum := PySem.W.mg_none_of X G z_sum, n_all := PySem.W.mg_none_of X G z_all, n_any := PySem.W.mg_none_of X G z_any, n_enumerate := PySem.W.mg_none_of X G z_enumerate, n_str := PySem.W.mg_none_of X G z_str, n_ValueError := PySem.W.mg_none_of X G z_ValueError, g_PIT := PySem.W.mg_of X G g_PIT, g_MOST_SITES := PySem.W.mg_of X G g_MOST_SITES, g_MOST_EXITS := PySem.W.mg_of X G g_MOST_EXITS, g_MOST_MARBLES := PySem.W.mg_of X G g_MOST_MARBLES, g_HEAD := PySem.W.mg_of X G g_HEAD, g_MARK := PySem.W.mg_of X G g_MARK, g_PIT_WORD := PySem.W.mg_of X G g_PIT_WORD, g_FIGURES := PySem.W.mg_of X G g_FIGURES, g_MOST_FIGURES := PySem.W.mg_of X G g_MOST_FIGURES, m_NoPlace := PySem.W.mg_of X G ax_NoPlace, x_NoPlace := ⟨ex_NoPlace⟩, m_NoSite := PySem.W.mg_of X G ax_NoSite, x_NoSite := ⟨ex_NoSite⟩, m_NoExit := PySem.W.mg_of X G ax_NoExit, x_NoExit := ⟨ex_NoExit⟩, m_NoMarble := PySem.W.mg_of X G ax_NoMarble, x_NoMarble := ⟨ex_NoMarble⟩, m_TooMany := PySem.W.mg_of X G ax_TooMany, x_TooMany := ⟨ex_TooMany⟩, m_NotOpen := PySem.W.mg_of X G ax_NotOpen, x_NotOpen := ⟨ex_NotOpen⟩, m_NotBare := PySem.W.mg_of X G ax_NotBare, x_NotBare := ⟨ex_NotBare⟩, m_NotTree := PySem.W.mg_of X G ax_NotTree, x_NotTree := ⟨ex_NotTree⟩, m_TooLong := PySem.W.mg_of X G ax_TooLong, x_TooLong := ⟨ex_TooLong⟩, m_NoBoard := PySem.W.mg_of X G ax_NoBoard, x_NoBoard := ⟨ex_NoBoard⟩, m_BoardError := PySem.W.mg_of X G ax_BoardError, x_BoardError := ⟨ex_BoardError⟩, xi_NoPlace := ⟨y1_NoPlace, y7_NoPlace, kb_NoPlace, y2_NoPlace, y3_NoPlace, y4, y5, y6_NoPlace⟩, xi_NoSite := ⟨y1_NoSite, y7_NoSite, kb_NoSite, y2_NoSite, y3_NoSite, y4, y5, y6_NoSite⟩, xi_NoExit := ⟨y1_NoExit, y7_NoExit, kb_NoExit, y2_NoExit, y3_NoExit, y4, y5, y6_NoExit⟩, xi_NoMarble := ⟨y1_NoMarble, y7_NoMarble, kb_NoMarble, y2_NoMarble, y3_NoMarble, y4, y5, y6_NoMarble⟩, xi_TooMany := ⟨y1_TooMany, y7_TooMany, kb_TooMany, y2_TooMany, y3_TooMany, y4, y5, y6_TooMany⟩, xi_NotOpen := ⟨y1_NotOpen, y7_NotOpen, kb_NotOpen, y2_NotOpen, y3_NotOpen, y4, y5, y6_NotOpen⟩, xi_NotBare := ⟨y1_NotBare, y7_NotBare, kb_NotBare, y2_NotBare, y3_NotBare, y4, y5, y6_NotBare⟩, xi_NotTree := ⟨y1_NotTree, y7_NotTree, kb_NotTree, y2_NotTree, y3_NotTree, y4, y5, y6_NotTree⟩, xi_TooLong := ⟨y1_TooLong, y7_TooLong, kb_TooLong, y2_TooLong, y3_TooLong, y4, y5, y6_TooLong⟩, xi_NoBoard := ⟨y1_NoBoard, y7_NoBoard, kb_NoBoard, y2_NoBoard, y3_NoBoard, y4, y5, y6_NoBoard⟩, kb_NoPlace := kb_NoPlace, kb_NoSite := kb_NoSite, kb_NoExit := kb_NoExit, kb_NoMarble := kb_NoMarble, kb_TooMany := kb_TooMany, kb_NotOpen := kb_NotOpen, kb_NotBare := kb_NotBare, kb_NotTree := kb_NotTree, kb_TooLong := kb_TooLong, kb_NoBoard := kb_NoBoard, kb_BoardError := kb_BoardError, p_NoPlace_BoardError := p_NoPlace_BoardError, p_NoSite_BoardError := p_NoSite_BoardError, p_NoExit_BoardError := p_NoExit_BoardError, p_NoMarble_BoardError := p_NoMarble_BoardError, p_TooMany_BoardError := p_TooMany_BoardError, p_NotOpen_BoardError := p_NotOpen_BoardError, p_NotBare_BoardError := p_NotBare_BoardError, p_NotTree_BoardError := p_NotTree_BoardError, p_TooLong_BoardError := p_TooLong_BoardError, p_NoBoard_BoardError := p_NoBoard_BoardError, p_NoPlace_NoSite := p_NoPlace_NoSite, p_NoPlace_NoExit := p_NoPlace_NoExit, p_NoPlace_NoMarble := p_NoPlace_NoMarble, p_NoPlace_TooMany := p_NoPlace_TooMany, p_NoPlace_NotOpen := p_NoPlace_NotOpen, p_NoPlace_NotBare := p_NoPlace_NotBare, p_NoPlace_NotTree := p_NoPlace_NotTree, p_NoPlace_TooLong := p_NoPlace_TooLong, p_NoPlace_NoBoard := p_NoPlace_NoBoard, p_NoSite_NoPlace := p_NoSite_NoPlace, p_NoSite_NoExit := p_NoSite_NoExit, p_NoSite_NoMarble := p_NoSite_NoMarble, p_NoSite_TooMany := p_NoSite_TooMany, p_NoSite_NotOpen := p_NoSite_NotOpen, p_NoSite_NotBare := p_NoSite_NotBare, p_NoSite_NotTree := p_NoSite_NotTree, p_NoSite_TooLong := p_NoSite_TooLong, p_NoSite_NoBoard := p_NoSite_NoBoard, p_NoExit_NoPlace := p_NoExit_NoPlace, p_NoExit_NoSite := p_NoExit_NoSite, p_NoExit_NoMarble := p_NoExit_NoMarble, p_NoExit_TooMany := p_NoExit_TooMany, p_NoExit_NotOpen := p_NoExit_NotOpen, p_NoExit_NotBare := p_NoExit_NotBare, p_NoExit_NotTree := p_NoExit_NotTree, p_NoExit_TooLong := p_NoExit_TooLong, p_NoExit_NoBoard := p_NoExit_NoBoard, p_NoMarble_NoPlace := p_NoMarble_NoPlace, p_NoMarble_NoSite := p_NoMarble_NoSite, p_NoMarble_NoExit := p_NoMarble_NoExit, p_NoMarble_TooMany := p_NoMarble_TooMany, p_NoMarble_NotOpen := p_NoMarble_NotOpen, p_NoMarble_NotBare := p_NoMarble_NotBare, p_NoMarble_NotTree := p_NoMarble_NotTree, p_NoMarble_TooLong := p_NoMarble_TooLong, p_NoMarble_NoBoard := p_NoMarble_NoBoard, p_TooMany_NoPlace := p_TooMany_NoPlace, p_TooMany_NoSite := p_TooMany_NoSite, p_TooMany_NoExit := p_TooMany_NoExit, p_TooMany_NoMarble := p_TooMany_NoMarble, p_TooMany_NotOpen := p_TooMany_NotOpen, p_TooMany_NotBare := p_TooMany_NotBare, p_TooMany_NotTree := p_TooMany_NotTree, p_TooMany_TooLong := p_TooMany_TooLong, p_TooMany_NoBoard := p_TooMany_NoBoard, p_NotOpen_NoPlace := p_NotOpen_NoPlace, p_NotOpen_NoSite := p_NotOpen_NoSite, p_NotOpen_NoExit := p_NotOpen_NoExit, p_NotOpen_NoMarble := p_NotOpen_NoMarble, p_NotOpen_TooMany := p_NotOpen_TooMany, p_NotOpen_NotBare := p_NotOpen_NotBare, p_NotOpen_NotTree := p_NotOpen_NotTree, p_NotOpen_TooLong := p_NotOpen_TooLong, p_NotOpen_NoBoard := p_NotOpen_NoBoard, p_NotBare_NoPlace := p_NotBare_NoPlace, p_NotBare_NoSite := p_NotBare_NoSite, p_NotBare_NoExit := p_NotBare_NoExit, p_NotBare_NoMarble := p_NotBare_NoMarble, p_NotBare_TooMany := p_NotBare_TooMany, p_NotBare_NotOpen := p_NotBare_NotOpen, p_NotBare_NotTree := p_NotBare_NotTree, p_NotBare_TooLong := p_NotBare_TooLong, p_NotBare_NoBoard := p_NotBare_NoBoard, p_NotTree_NoPlace := p_NotTree_NoPlace, p_NotTree_NoSite := p_NotTree_NoSite, p_NotTree_NoExit := p_NotTree_NoExit, p_NotTree_NoMarble := p_NotTree_NoMarble, p_NotTree_TooMany := p_NotTree_TooMany, p_NotTree_NotOpen := p_NotTree_NotOpen, p_NotTree_NotBare := p_NotTree_NotBare, p_NotTree_TooLong := p_NotTree_TooLong, p_NotTree_NoBoard := p_NotTree_NoBoard, p_TooLong_NoPlace := p_TooLong_NoPlace, p_TooLong_NoSite := p_TooLong_NoSite, p_TooLong_NoExit := p_TooLong_NoExit, p_TooLong_NoMarble := p_TooLong_NoMarble, p_TooLong_TooMany := p_TooLong_TooMany, p_TooLong_NotOpen := p_TooLong_NotOpen, p_TooLong_NotBare := p_TooLong_NotBare, p_TooLong_NotTree := p_TooLong_NotTree, p_TooLong_NoBoard := p_TooLong_NoBoard, p_NoBoard_NoPlace := p_NoBoard_NoPlace, p_NoBoard_NoSite := p_NoBoard_NoSite, p_NoBoard_NoExit := p_NoBoard_NoExit, p_NoBoard_NoMarble := p_NoBoard_NoMarble, p_NoBoard_TooMany := p_NoBoard_TooMany, p_NoBoard_NotOpen := p_NoBoard_NotOpen, p_NoBoard_NotBare := p_NoBoard_NotBare, p_NoBoard_NotTree := p_NoBoard_NotTree, p_NoBoard_TooLong := p_NoBoard_TooLong, qt_NoPlace_ValueError := qt_NoPlace_ValueError, qt_NoSite_ValueError := qt_NoSite_ValueError, qt_NoExit_ValueError := qt_NoExit_ValueError, qt_NoMarble_ValueError := qt_NoMarble_ValueError, qt_TooMany_ValueError := qt_TooMany_ValueError, qt_NotOpen_ValueError := qt_NotOpen_ValueError, qt_NotBare_ValueError := qt_NotBare_ValueError, qt_NotTree_ValueError := qt_NotTree_ValueError, qt_TooLong_ValueError := qt_TooLong_ValueError, qt_NoBoard_ValueError := qt_NoBoard_ValueError, q_int_bool := q_int_bool, ne_NoPlace_BoardError := ne_NoPlace_BoardError, ne_NoSite_BoardError := ne_NoSite_BoardError, ne_NoExit_BoardError := ne_NoExit_BoardError, ne_NoMarble_BoardError := ne_NoMarble_BoardError, ne_TooMany_BoardError := ne_TooMany_BoardError, ne_NotOpen_BoardError := ne_NotOpen_BoardError, ne_NotBare_BoardError := ne_NotBare_BoardError, ne_NotTree_BoardError := ne_NotTree_BoardError, ne_TooLong_BoardError := ne_TooLong_BoardError, ne_NoBoard_BoardError := ne_NoBoard_BoardError, ne_NoPlace_NoSite := ne_NoPlace_NoSite, ne_NoPlace_NoExit := ne_NoPlace_NoExit, ne_NoPlace_NoMarble := ne_NoPlace_NoMarble, ne_NoPlace_TooMany := ne_NoPlace_TooMany, ne_NoPlace_NotOpen := ne_NoPlace_NotOpen, ne_NoPlace_NotBare := ne_NoPlace_NotBare, ne_NoPlace_NotTree := ne_NoPlace_NotTree, ne_NoPlace_TooLong := ne_NoPlace_TooLong, ne_NoPlace_NoBoard := ne_NoPlace_NoBoard, ne_NoSite_NoPlace := ne_NoSite_NoPlace, ne_NoSite_NoExit := ne_NoSite_NoExit, ne_NoSite_NoMarble := ne_NoSite_NoMarble, ne_NoSite_TooMany := ne_NoSite_TooMany, ne_NoSite_NotOpen := ne_NoSite_NotOpen, ne_NoSite_NotBare := ne_NoSite_NotBare, ne_NoSite_NotTree := ne_NoSite_NotTree, ne_NoSite_TooLong := ne_NoSite_TooLong, ne_NoSite_NoBoard := ne_NoSite_NoBoard, ne_NoExit_NoPlace := ne_NoExit_NoPlace, ne_NoExit_NoSite := ne_NoExit_NoSite, ne_NoExit_NoMarble := ne_NoExit_NoMarble, ne_NoExit_TooMany := ne_NoExit_TooMany, ne_NoExit_NotOpen := ne_NoExit_NotOpen, ne_NoExit_NotBare := ne_NoExit_NotBare, ne_NoExit_NotTree := ne_NoExit_NotTree, ne_NoExit_TooLong := ne_NoExit_TooLong, ne_NoExit_NoBoard := ne_NoExit_NoBoard, ne_NoMarble_NoPlace := ne_NoMarble_NoPlace, ne_NoMarble_NoSite := ne_NoMarble_NoSite, ne_NoMarble_NoExit := ne_NoMarble_NoExit, ne_NoMarble_TooMany := ne_NoMarble_TooMany, ne_NoMarble_NotOpen := ne_NoMarble_NotOpen, ne_NoMarble_NotBare := ne_NoMarble_NotBare, ne_NoMarble_NotTree := ne_NoMarble_NotTree, ne_NoMarble_TooLong := ne_NoMarble_TooLong, ne_NoMarble_NoBoard := ne_NoMarble_NoBoard, ne_TooMany_NoPlace := ne_TooMany_NoPlace, ne_TooMany_NoSite := ne_TooMany_NoSite, ne_TooMany_NoExit := ne_TooMany_NoExit, ne_TooMany_NoMarble := ne_TooMany_NoMarble, ne_TooMany_NotOpen := ne_TooMany_NotOpen, ne_TooMany_NotBare := ne_TooMany_NotBare, ne_TooMany_NotTree := ne_TooMany_NotTree, ne_TooMany_TooLong := ne_TooMany_TooLong, ne_TooMany_NoBoard := ne_TooMany_NoBoard, ne_NotOpen_NoPlace := ne_NotOpen_NoPlace, ne_NotOpen_NoSite := ne_NotOpen_NoSite, ne_NotOpen_NoExit := ne_NotOpen_NoExit, ne_NotOpen_NoMarble := ne_NotOpen_NoMarble, ne_NotOpen_TooMany := ne_NotOpen_TooMany, ne_NotOpen_NotBare := ne_NotOpen_NotBare, ne_NotOpen_NotTree := ne_NotOpen_NotTree, ne_NotOpen_TooLong := ne_NotOpen_TooLong, ne_NotOpen_NoBoard := ne_NotOpen_NoBoard, ne_NotBare_NoPlace := ne_NotBare_NoPlace, ne_NotBare_NoSite := ne_NotBare_NoSite, ne_NotBare_NoExit := ne_NotBare_NoExit, ne_NotBare_NoMarble := ne_NotBare_NoMarble, ne_NotBare_TooMany := ne_NotBare_TooMany, ne_NotBare_NotOpen := ne_NotBare_NotOpen, ne_NotBare_NotTree := ne_NotBare_NotTree, ne_NotBare_TooLong := ne_NotBare_TooLong, ne_NotBare_NoBoard := ne_NotBare_NoBoard, ne_NotTree_NoPlace := ne_NotTree_NoPlace, ne_NotTree_NoSite := ne_NotTree_NoSite, ne_NotTree_NoExit := ne_NotTree_NoExit, ne_NotTree_NoMarble := ne_NotTree_NoMarble, ne_NotTree_TooMany := ne_NotTree_TooMany, ne_NotTree_NotOpen := ne_NotTree_NotOpen, ne_NotTree_NotBare := ne_NotTree_NotBare, ne_NotTree_TooLong := ne_NotTree_TooLong, ne_NotTree_NoBoard := ne_NotTree_NoBoard, ne_TooLong_NoPlace := ne_TooLong_NoPlace, ne_TooLong_NoSite := ne_TooLong_NoSite, ne_TooLong_NoExit := ne_TooLong_NoExit, ne_TooLong_NoMarble := ne_TooLong_NoMarble, ne_TooLong_TooMany := ne_TooLong_TooMany, ne_TooLong_NotOpen := ne_TooLong_NotOpen, ne_TooLong_NotBare := ne_TooLong_NotBare, ne_TooLong_NotTree := ne_TooLong_NotTree, ne_TooLong_NoBoard := ne_TooLong_NoBoard, ne_NoBoard_NoPlace := ne_NoBoard_NoPlace, ne_NoBoard_NoSite := ne_NoBoard_NoSite, ne_NoBoard_NoExit := ne_NoBoard_NoExit, ne_NoBoard_NoMarble := ne_NoBoard_NoMarble, ne_NoBoard_TooMany := ne_NoBoard_TooMany, ne_NoBoard_NotOpen := ne_NoBoard_NotOpen, ne_NoBoard_NotBare := ne_NoBoard_NotBare, ne_NoBoard_NotTree := ne_NoBoard_NotTree, ne_NoBoard_TooLong := ne_NoBoard_TooLong }
  exact ⟨PySem.W.fnOf "law" "law" (defArgs s_law) (defBody s_law) (defScope s_law) .none kV_law dc_law pm_law an_law cd_law ct_law, fun s v => .of_eq rfl, fun base _ _ => ok_law T (ok_drawn T) (tame_of (ok_Binit T (ok_check_rows T (ok_check_row T))) init_tame) (ok_deed T (ok_Binit T (ok_check_rows T (ok_check_row T))) (ok_Bload T (ok_check_site T)) (ok_Bturn_to T (ok_check_site T)) (ok_step T (ok_check_site T)) (ok_run T (ok_check_open T (ok_is_open T (ok_reached T))) (ok_Btwin T (tame_of (ok_Binit T (ok_check_rows T (ok_check_row T))) init_tame) (ok_Bstand_like T)) (ok_loaded T) (ok_Bstand_like T) (ok_step T (ok_check_site T))) (ok_run_back T (ok_check_back T (ok_check_site T) (ok_check_open T (ok_is_open T (ok_reached T))) (ok_loaded T) (ok_is_tree T (ok_reached T) (ok_last_exit T (ok_check_site T)))) (ok_Btwin T (tame_of (ok_Binit T (ok_check_rows T (ok_check_row T))) init_tame) (ok_Bstand_like T)) (ok_turn_back T (ok_place_ahead T (ok_leads_to T (ok_last_exit T (ok_check_site T))))) (ok_Bstand_like T)) (ok_read T (ok_read_head T (ok_read_number T)) (ok_read_numbers T (ok_read_number T)) (ok_read_row T (ok_read_way T (ok_read_number T))) (ok_told T (ok_Binit T (ok_check_rows T (ok_check_row T))) (ok_Bturn_to T (ok_check_site T)) (ok_Bload T (ok_check_site T))))) (ok_marks T)⟩
theorem walk {l : PySem.W.OpenLaw} {q : Program} {loose : List Str} {XP : (Str → Option Value) → Heap → Prop} {YP : World → Heap → Prop} {d : DefRec} {K : Params → PySem.W.Frag} (hn : l.most = some 63) (hdf : d.params.defaults = [])
    (hY : ∀ (w : World) (h : Heap), YP w h → (K w.params).In h)
    (F : ∀ (w : World) (mg : Str → Option Value) (fa : Addr) (h : Heap), (K w.params).In h → h.Ns mainGlobals mg → mg d.name = some (.ref fa) →
      ∃ fd : FuncData, (∀ (s : Shared) (u : Value), BindsTo s fd ⟨[u], []⟩ [("script", u)]) ∧ ∀ base : Heap, (K w.params).In base → base.Ns mainGlobals mg → FnOk l.prog w (K w.params) mg base CX0 10 fa fd ["script"] (spLaw (K w.params))) :
    PySem.W.WalkO q loose XP YP l.row.toRowW d [] (fun f vs => PySem.call f vs) :=
  L2.walk_of (n := 63) (k := 10) (x := "script") (CX := fun _ => CX0) (sp := fun w => spLaw (K w.params)) hn (by decide) hdf ⟨rfl, by decide, by decide⟩ hY F (fun _ _ a ns hl _ hS => ⟨a, ns, rfl, hS, hl, fun _ => rfl⟩) fun _ _ _ _ _ z => z
end Law
theorem PySem.W.Fast.tw13563738856143989019 : True := trivial
theorem PySem.W.Fast.tw18089501138747352427 : True := trivial
theorem PySem.W.Fast.tw2364330005848852924 : True := trivial
theorem PySem.W.Fast.tw7870651597527723879 : True := trivial
theorem PySem.W.Fast.tw4982114148245917243 : True := trivial
theorem PySem.W.Fast.tw14988162330980824830 : True := trivial
theorem PySem.W.Fast.tw300515246311991717 : True := trivial
theorem PySem.W.Fast.tw258156865128503004 : True := trivial
theorem PySem.W.Fast.tw9601084251838020029 : True := trivial
theorem PySem.W.Fast.tw7661780571554201106 : True := trivial
theorem PySem.W.Fast.tw7338627349339788871 : True := trivial
theorem PySem.W.Fast.tw10825299552152839991 : True := trivial
theorem PySem.W.Fast.tw5470698384271343382 : True := trivial
theorem PySem.W.Fast.tw17175371287921396160 : True := trivial
theorem PySem.W.Fast.tw8378409473956159961 : True := trivial
theorem PySem.W.Fast.tw6918563642223039973 : True := trivial
theorem PySem.W.Fast.tw5918594283436894931 : True := trivial
theorem PySem.W.Fast.tw16739598341920350238 : True := trivial
open PySem PySem.W PyProof.Rows
set_option maxRecDepth 100000 in
set_option maxHeartbeats 0 in
theorem PySem.Challenge.cw_marblerun_k28_refusals_apart_holds : PySem.Challenge.rw_marblerun_k28_refusals_apart.Holds := by
  w_on; o_law; k_head; (case hw => w_witness2)
  k_fill
  refine Law.walk (l := PySem.Challenge.rw_marblerun_k28_refusals_apart) rfl rfl (fun w h Y => PySem.W.kIn_of Y) ?F
  case F =>
    intro w mg fa h KX G hmg
    refine' Law.all_mk KX G hmg ?aC ?a_check_rows ?l_check_rows ?c_check_rows ?k_check_rows ?a_check_row ?l_check_row ?c_check_row ?k_check_row ?a_check_site ?l_check_site ?c_check_site ?k_check_site ?a_Binit ?i_Binit ?l_Binit ?c_Binit ?k_Binit ?a_Bturn_to ?i_Bturn_to ?l_Bturn_to ?c_Bturn_to ?k_Bturn_to ?a_Bload ?i_Bload ?l_Bload ?c_Bload ?k_Bload ?a_Btwin ?i_Btwin ?l_Btwin ?c_Btwin ?k_Btwin ?a_Bstand_like ?i_Bstand_like ?l_Bstand_like ?c_Bstand_like ?k_Bstand_like ?a_reached ?l_reached ?c_reached ?k_reached ?a_is_open ?l_is_open ?c_is_open ?k_is_open ?a_check_open ?l_check_open ?c_check_open ?k_check_open ?a_last_exit ?l_last_exit ?c_last_exit ?k_last_exit ?a_is_tree ?l_is_tree ?c_is_tree ?k_is_tree ?a_step ?l_step ?c_step ?k_step ?a_loaded ?l_loaded ?c_loaded ?k_loaded ?a_run ?l_run ?c_run ?k_run ?a_check_back ?l_check_back ?c_check_back ?k_check_back ?a_run_back ?l_run_back ?c_run_back ?k_run_back ?a_turn_back ?l_turn_back ?c_turn_back ?k_turn_back ?a_place_ahead ?l_place_ahead ?c_place_ahead ?k_place_ahead ?a_leads_to ?l_leads_to ?c_leads_to ?k_leads_to ?a_read ?l_read ?c_read ?k_read ?a_told ?l_told ?c_told ?k_told ?a_read_head ?l_read_head ?c_read_head ?k_read_head ?a_read_numbers ?l_read_numbers ?c_read_numbers ?k_read_numbers ?a_read_row ?l_read_row ?c_read_row ?k_read_row ?a_read_way ?l_read_way ?c_read_way ?k_read_way ?a_read_number ?l_read_number ?c_read_number ?k_read_number ?a_drawn ?l_drawn ?c_drawn ?k_drawn ?a_marks ?l_marks ?c_marks ?k_marks ?a_deed ?l_deed ?c_deed ?k_deed ?a_law ?l_law ?c_law ?k_law ?pg ?hd ?po ?sa ?mk ?kc ?na_rows ?na_turns ?na_loads ?na_steps ?na_taken ?z_len ?z_range ?z_isinstance ?z_int ?z_list ?z_sum ?z_all ?z_any ?z_enumerate ?z_str ?z_ValueError ?g_PIT ?g_MOST_SITES ?g_MOST_EXITS ?g_MOST_MARBLES ?g_HEAD ?g_MARK ?g_PIT_WORD ?g_FIGURES ?g_MOST_FIGURES ?ax_NoPlace ?ex_NoPlace ?kb_NoPlace ?ax_NoSite ?ex_NoSite ?kb_NoSite ?ax_NoExit ?ex_NoExit ?kb_NoExit ?ax_NoMarble ?ex_NoMarble ?kb_NoMarble ?ax_TooMany ?ex_TooMany ?kb_TooMany ?ax_NotOpen ?ex_NotOpen ?kb_NotOpen ?ax_NotBare ?ex_NotBare ?kb_NotBare ?ax_NotTree ?ex_NotTree ?kb_NotTree ?ax_TooLong ?ex_TooLong ?kb_TooLong ?ax_NoBoard ?ex_NoBoard ?kb_NoBoard ?ax_BoardError ?ex_BoardError ?kb_BoardError ?p_NoPlace_BoardError ?ne_NoPlace_BoardError ?p_NoSite_BoardError ?ne_NoSite_BoardError ?p_NoExit_BoardError ?ne_NoExit_BoardError ?p_NoMarble_BoardError ?ne_NoMarble_BoardError ?p_TooMany_BoardError ?ne_TooMany_BoardError ?p_NotOpen_BoardError ?ne_NotOpen_BoardError ?p_NotBare_BoardError ?ne_NotBare_BoardError ?p_NotTree_BoardError ?ne_NotTree_BoardError ?p_TooLong_BoardError ?ne_TooLong_BoardError ?p_NoBoard_BoardError ?ne_NoBoard_BoardError ?p_NoPlace_NoSite ?ne_NoPlace_NoSite ?p_NoPlace_NoExit ?ne_NoPlace_NoExit ?p_NoPlace_NoMarble ?ne_NoPlace_NoMarble ?p_NoPlace_TooMany ?ne_NoPlace_TooMany ?p_NoPlace_NotOpen ?ne_NoPlace_NotOpen ?p_NoPlace_NotBare ?ne_NoPlace_NotBare ?p_NoPlace_NotTree ?ne_NoPlace_NotTree ?p_NoPlace_TooLong ?ne_NoPlace_TooLong ?p_NoPlace_NoBoard ?ne_NoPlace_NoBoard ?p_NoSite_NoPlace ?ne_NoSite_NoPlace ?p_NoSite_NoExit ?ne_NoSite_NoExit ?p_NoSite_NoMarble ?ne_NoSite_NoMarble ?p_NoSite_TooMany ?ne_NoSite_TooMany ?p_NoSite_NotOpen ?ne_NoSite_NotOpen ?p_NoSite_NotBare ?ne_NoSite_NotBare ?p_NoSite_NotTree ?ne_NoSite_NotTree ?p_NoSite_TooLong ?ne_NoSite_TooLong ?p_NoSite_NoBoard ?ne_NoSite_NoBoard ?p_NoExit_NoPlace ?ne_NoExit_NoPlace ?p_NoExit_NoSite ?ne_NoExit_NoSite ?p_NoExit_NoMarble ?ne_NoExit_NoMarble ?p_NoExit_TooMany ?ne_NoExit_TooMany ?p_NoExit_NotOpen ?ne_NoExit_NotOpen ?p_NoExit_NotBare ?ne_NoExit_NotBare ?p_NoExit_NotTree ?ne_NoExit_NotTree ?p_NoExit_TooLong ?ne_NoExit_TooLong ?p_NoExit_NoBoard ?ne_NoExit_NoBoard ?p_NoMarble_NoPlace ?ne_NoMarble_NoPlace ?p_NoMarble_NoSite ?ne_NoMarble_NoSite ?p_NoMarble_NoExit ?ne_NoMarble_NoExit ?p_NoMarble_TooMany ?ne_NoMarble_TooMany ?p_NoMarble_NotOpen ?ne_NoMarble_NotOpen ?p_NoMarble_NotBare ?ne_NoMarble_NotBare ?p_NoMarble_NotTree ?ne_NoMarble_NotTree ?p_NoMarble_TooLong ?ne_NoMarble_TooLong ?p_NoMarble_NoBoard ?ne_NoMarble_NoBoard ?p_TooMany_NoPlace ?ne_TooMany_NoPlace ?p_TooMany_NoSite ?ne_TooMany_NoSite ?p_TooMany_NoExit ?ne_TooMany_NoExit ?p_TooMany_NoMarble ?ne_TooMany_NoMarble ?p_TooMany_NotOpen ?ne_TooMany_NotOpen ?p_TooMany_NotBare ?ne_TooMany_NotBare ?p_TooMany_NotTree ?ne_TooMany_NotTree ?p_TooMany_TooLong ?ne_TooMany_TooLong ?p_TooMany_NoBoard ?ne_TooMany_NoBoard ?p_NotOpen_NoPlace ?ne_NotOpen_NoPlace ?p_NotOpen_NoSite ?ne_NotOpen_NoSite ?p_NotOpen_NoExit ?ne_NotOpen_NoExit ?p_NotOpen_NoMarble ?ne_NotOpen_NoMarble ?p_NotOpen_TooMany ?ne_NotOpen_TooMany ?p_NotOpen_NotBare ?ne_NotOpen_NotBare ?p_NotOpen_NotTree ?ne_NotOpen_NotTree ?p_NotOpen_TooLong ?ne_NotOpen_TooLong ?p_NotOpen_NoBoard ?ne_NotOpen_NoBoard ?p_NotBare_NoPlace ?ne_NotBare_NoPlace ?p_NotBare_NoSite ?ne_NotBare_NoSite ?p_NotBare_NoExit ?ne_NotBare_NoExit ?p_NotBare_NoMarble ?ne_NotBare_NoMarble ?p_NotBare_TooMany ?ne_NotBare_TooMany ?p_NotBare_NotOpen ?ne_NotBare_NotOpen ?p_NotBare_NotTree ?ne_NotBare_NotTree ?p_NotBare_TooLong ?ne_NotBare_TooLong ?p_NotBare_NoBoard ?ne_NotBare_NoBoard ?p_NotTree_NoPlace ?ne_NotTree_NoPlace ?p_NotTree_NoSite ?ne_NotTree_NoSite ?p_NotTree_NoExit ?ne_NotTree_NoExit ?p_NotTree_NoMarble ?ne_NotTree_NoMarble ?p_NotTree_TooMany ?ne_NotTree_TooMany ?p_NotTree_NotOpen ?ne_NotTree_NotOpen ?p_NotTree_NotBare ?ne_NotTree_NotBare ?p_NotTree_TooLong ?ne_NotTree_TooLong ?p_NotTree_NoBoard ?ne_NotTree_NoBoard ?p_TooLong_NoPlace ?ne_TooLong_NoPlace ?p_TooLong_NoSite ?ne_TooLong_NoSite ?p_TooLong_NoExit ?ne_TooLong_NoExit ?p_TooLong_NoMarble ?ne_TooLong_NoMarble ?p_TooLong_TooMany ?ne_TooLong_TooMany ?p_TooLong_NotOpen ?ne_TooLong_NotOpen ?p_TooLong_NotBare ?ne_TooLong_NotBare ?p_TooLong_NotTree ?ne_TooLong_NotTree ?p_TooLong_NoBoard ?ne_TooLong_NoBoard ?p_NoBoard_NoPlace ?ne_NoBoard_NoPlace ?p_NoBoard_NoSite ?ne_NoBoard_NoSite ?p_NoBoard_NoExit ?ne_NoBoard_NoExit ?p_NoBoard_NoMarble ?ne_NoBoard_NoMarble ?p_NoBoard_TooMany ?ne_NoBoard_TooMany ?p_NoBoard_NotOpen ?ne_NoBoard_NotOpen ?p_NoBoard_NotBare ?ne_NoBoard_NotBare ?p_NoBoard_NotTree ?ne_NoBoard_NotTree ?p_NoBoard_TooLong ?ne_NoBoard_TooLong ?y1_NoPlace ?y7_NoPlace ?y2_NoPlace ?y3_NoPlace ?y6_NoPlace ?y1_NoSite ?y7_NoSite ?y2_NoSite ?y3_NoSite ?y6_NoSite ?y1_NoExit ?y7_NoExit ?y2_NoExit ?y3_NoExit ?y6_NoExit ?y1_NoMarble ?y7_NoMarble ?y2_NoMarble ?y3_NoMarble ?y6_NoMarble ?y1_TooMany ?y7_TooMany ?y2_TooMany ?y3_TooMany ?y6_TooMany ?y1_NotOpen ?y7_NotOpen ?y2_NotOpen ?y3_NotOpen ?y6_NotOpen ?y1_NotBare ?y7_NotBare ?y2_NotBare ?y3_NotBare ?y6_NotBare ?y1_NotTree ?y7_NotTree ?y2_NotTree ?y3_NotTree ?y6_NotTree ?y1_TooLong ?y7_TooLong ?y2_TooLong ?y3_TooLong ?y6_TooLong ?y1_NoBoard ?y7_NoBoard ?y2_NoBoard ?y3_NoBoard ?y6_NoBoard ?y4 ?y5 ?qt_NoPlace_ValueError ?qt_NoSite_ValueError ?qt_NoExit_ValueError ?qt_NoMarble_ValueError ?qt_TooMany_ValueError ?qt_NotOpen_ValueError ?qt_NotBare_ValueError ?qt_NotTree_ValueError ?qt_TooLong_ValueError ?qt_NoBoard_ValueError ?q_int_bool
    (case aC => k_is)
    (case a_check_rows => k_is)
    (case l_check_rows => k_is)
    (case c_check_rows => k_is)
    (case k_check_rows => k_is)
    (case a_check_row => k_is)
    (case l_check_row => k_is)
    (case c_check_row => k_is)
    (case k_check_row => k_is)
    (case a_check_site => k_is)
    (case l_check_site => k_is)
    (case c_check_site => k_is)
    (case k_check_site => k_is)
    (case a_Binit => k_is)
    (case i_Binit => k_is)
    (case l_Binit => k_is)
    (case c_Binit => k_is)
    (case k_Binit => k_is)
    (case a_Bturn_to => k_is)
    (case i_Bturn_to => k_is)
    (case l_Bturn_to => k_is)
    (case c_Bturn_to => k_is)
    (case k_Bturn_to => k_is)
    (case a_Bload => k_is)
    (case i_Bload => k_is)
    (case l_Bload => k_is)
    (case c_Bload => k_is)
    (case k_Bload => k_is)
    (case a_Btwin => k_is)
    (case i_Btwin => k_is)
    (case l_Btwin => k_is)
    (case c_Btwin => k_is)
    (case k_Btwin => k_is)
    (case a_Bstand_like => k_is)
    (case i_Bstand_like => k_is)
    (case l_Bstand_like => k_is)
    (case c_Bstand_like => k_is)
    (case k_Bstand_like => k_is)
    (case a_reached => k_is)
    (case l_reached => k_is)
    (case c_reached => k_is)
    (case k_reached => k_is)
    (case a_is_open => k_is)
    (case l_is_open => k_is)
    (case c_is_open => k_is)
    (case k_is_open => k_is)
    (case a_check_open => k_is)
    (case l_check_open => k_is)
    (case c_check_open => k_is)
    (case k_check_open => k_is)
    (case a_last_exit => k_is)
    (case l_last_exit => k_is)
    (case c_last_exit => k_is)
    (case k_last_exit => k_is)
    (case a_is_tree => k_is)
    (case l_is_tree => k_is)
    (case c_is_tree => k_is)
    (case k_is_tree => k_is)
    (case a_step => k_is)
    (case l_step => k_is)
    (case c_step => k_is)
    (case k_step => k_is)
    (case a_loaded => k_is)
    (case l_loaded => k_is)
    (case c_loaded => k_is)
    (case k_loaded => k_is)
    (case a_run => k_is)
    (case l_run => k_is)
    (case c_run => k_is)
    (case k_run => k_is)
    (case a_check_back => k_is)
    (case l_check_back => k_is)
    (case c_check_back => k_is)
    (case k_check_back => k_is)
    (case a_run_back => k_is)
    (case l_run_back => k_is)
    (case c_run_back => k_is)
    (case k_run_back => k_is)
    (case a_turn_back => k_is)
    (case l_turn_back => k_is)
    (case c_turn_back => k_is)
    (case k_turn_back => k_is)
    (case a_place_ahead => k_is)
    (case l_place_ahead => k_is)
    (case c_place_ahead => k_is)
    (case k_place_ahead => k_is)
    (case a_leads_to => k_is)
    (case l_leads_to => k_is)
    (case c_leads_to => k_is)
    (case k_leads_to => k_is)
    (case a_read => k_is)
    (case l_read => k_is)
    (case c_read => k_is)
    (case k_read => k_is)
    (case a_told => k_is)
    (case l_told => k_is)
    (case c_told => k_is)
    (case k_told => k_is)
    (case a_read_head => k_is)
    (case l_read_head => k_is)
    (case c_read_head => k_is)
    (case k_read_head => k_is)
    (case a_read_numbers => k_is)
    (case l_read_numbers => k_is)
    (case c_read_numbers => k_is)
    (case k_read_numbers => k_is)
    (case a_read_row => k_is)
    (case l_read_row => k_is)
    (case c_read_row => k_is)
    (case k_read_row => k_is)
    (case a_read_way => k_is)
    (case l_read_way => k_is)
    (case c_read_way => k_is)
    (case k_read_way => k_is)
    (case a_read_number => k_is)
    (case l_read_number => k_is)
    (case c_read_number => k_is)
    (case k_read_number => k_is)
    (case a_drawn => k_is)
    (case l_drawn => k_is)
    (case c_drawn => k_is)
    (case k_drawn => k_is)
    (case a_marks => k_is)
    (case l_marks => k_is)
    (case c_marks => k_is)
    (case k_marks => k_is)
    (case a_deed => k_is)
    (case l_deed => k_is)
    (case c_deed => k_is)
    (case k_deed => k_is)
    (case a_law => k_is)
    (case l_law => k_is)
    (case c_law => k_is)
    (case k_law => k_is)
    (case pg => k_is)
    (case hd => k_is)
    (case po => k_is)
    (case sa => k_is)
    (case mk => k_is)
    (case kc => k_is)
    (case na_rows => k_is)
    (case na_turns => k_is)
    (case na_loads => k_is)
    (case na_steps => k_is)
    (case na_taken => k_is)
    (case z_len => k_is)
    (case z_range => k_is)
    (case z_isinstance => k_is)
    (case z_int => k_is)
    (case z_list => k_is)
    (case z_sum => k_is)
    (case z_all => k_is)
    (case z_any => k_is)
    (case z_enumerate => k_is)
    (case z_str => k_is)
    (case z_ValueError => k_is)
    (case g_PIT => k_is)
    (case g_MOST_SITES => k_is)
    (case g_MOST_EXITS => k_is)
    (case g_MOST_MARBLES => k_is)
    (case g_HEAD => k_is)
    (case g_MARK => k_is)
    (case g_PIT_WORD => k_is)
    (case g_FIGURES => k_is)
    (case g_MOST_FIGURES => k_is)
    (case ax_NoPlace => k_is)
    (case ax_NoSite => k_is)
    (case ax_NoExit => k_is)
    (case ax_NoMarble => k_is)
    (case ax_TooMany => k_is)
    (case ax_NotOpen => k_is)
    (case ax_NotBare => k_is)
    (case ax_NotTree => k_is)
    (case ax_TooLong => k_is)
    (case ax_NoBoard => k_is)
    (case ax_BoardError => k_is)
    (case y1_NoPlace => k_is)
    (case y7_NoPlace => k_is)
    (case y2_NoPlace => k_is)
    (case y3_NoPlace => k_is)
    (case y6_NoPlace => k_is)
    (case y1_NoSite => k_is)
    (case y7_NoSite => k_is)
    (case y2_NoSite => k_is)
    (case y3_NoSite => k_is)
    (case y6_NoSite => k_is)
    (case y1_NoExit => k_is)
    (case y7_NoExit => k_is)
    (case y2_NoExit => k_is)
    (case y3_NoExit => k_is)
    (case y6_NoExit => k_is)
    (case y1_NoMarble => k_is)
    (case y7_NoMarble => k_is)
    (case y2_NoMarble => k_is)
    (case y3_NoMarble => k_is)
    (case y6_NoMarble => k_is)
    (case y1_TooMany => k_is)
    (case y7_TooMany => k_is)
    (case y2_TooMany => k_is)
    (case y3_TooMany => k_is)
    (case y6_TooMany => k_is)
    (case y1_NotOpen => k_is)
    (case y7_NotOpen => k_is)
    (case y2_NotOpen => k_is)
    (case y3_NotOpen => k_is)
    (case y6_NotOpen => k_is)
    (case y1_NotBare => k_is)
    (case y7_NotBare => k_is)
    (case y2_NotBare => k_is)
    (case y3_NotBare => k_is)
    (case y6_NotBare => k_is)
    (case y1_NotTree => k_is)
    (case y7_NotTree => k_is)
    (case y2_NotTree => k_is)
    (case y3_NotTree => k_is)
    (case y6_NotTree => k_is)
    (case y1_TooLong => k_is)
    (case y7_TooLong => k_is)
    (case y2_TooLong => k_is)
    (case y3_TooLong => k_is)
    (case y6_TooLong => k_is)
    (case y1_NoBoard => k_is)
    (case y7_NoBoard => k_is)
    (case y2_NoBoard => k_is)
    (case y3_NoBoard => k_is)
    (case y6_NoBoard => k_is)
    (case y4 => k_is)
    (case y5 => k_is)
    (case ex_NoPlace => k_exc)
    (case ex_NoSite => k_exc)
    (case ex_NoExit => k_exc)
    (case ex_NoMarble => k_exc)
    (case ex_TooMany => k_exc)
    (case ex_NotOpen => k_exc)
    (case ex_NotBare => k_exc)
    (case ex_NotTree => k_exc)
    (case ex_TooLong => k_exc)
    (case ex_NoBoard => k_exc)
    (case ex_BoardError => k_exc)
    (case kb_NoPlace => kit_is)
    (case kb_NoSite => kit_is)
    (case kb_NoExit => kit_is)
    (case kb_NoMarble => kit_is)
    (case kb_TooMany => kit_is)
    (case kb_NotOpen => kit_is)
    (case kb_NotBare => kit_is)
    (case kb_NotTree => kit_is)
    (case kb_TooLong => kit_is)
    (case kb_NoBoard => kit_is)
    (case kb_BoardError => kit_is)
    (case p_NoPlace_BoardError => kit_is)
    (case p_NoSite_BoardError => kit_is)
    (case p_NoExit_BoardError => kit_is)
    (case p_NoMarble_BoardError => kit_is)
    (case p_TooMany_BoardError => kit_is)
    (case p_NotOpen_BoardError => kit_is)
    (case p_NotBare_BoardError => kit_is)
    (case p_NotTree_BoardError => kit_is)
    (case p_TooLong_BoardError => kit_is)
    (case p_NoBoard_BoardError => kit_is)
    (case p_NoPlace_NoSite => kit_is)
    (case p_NoPlace_NoExit => kit_is)
    (case p_NoPlace_NoMarble => kit_is)
    (case p_NoPlace_TooMany => kit_is)
    (case p_NoPlace_NotOpen => kit_is)
    (case p_NoPlace_NotBare => kit_is)
    (case p_NoPlace_NotTree => kit_is)
    (case p_NoPlace_TooLong => kit_is)
    (case p_NoPlace_NoBoard => kit_is)
    (case p_NoSite_NoPlace => kit_is)
    (case p_NoSite_NoExit => kit_is)
    (case p_NoSite_NoMarble => kit_is)
    (case p_NoSite_TooMany => kit_is)
    (case p_NoSite_NotOpen => kit_is)
    (case p_NoSite_NotBare => kit_is)
    (case p_NoSite_NotTree => kit_is)
    (case p_NoSite_TooLong => kit_is)
    (case p_NoSite_NoBoard => kit_is)
    (case p_NoExit_NoPlace => kit_is)
    (case p_NoExit_NoSite => kit_is)
    (case p_NoExit_NoMarble => kit_is)
    (case p_NoExit_TooMany => kit_is)
    (case p_NoExit_NotOpen => kit_is)
    (case p_NoExit_NotBare => kit_is)
    (case p_NoExit_NotTree => kit_is)
    (case p_NoExit_TooLong => kit_is)
    (case p_NoExit_NoBoard => kit_is)
    (case p_NoMarble_NoPlace => kit_is)
    (case p_NoMarble_NoSite => kit_is)
    (case p_NoMarble_NoExit => kit_is)
    (case p_NoMarble_TooMany => kit_is)
    (case p_NoMarble_NotOpen => kit_is)
    (case p_NoMarble_NotBare => kit_is)
    (case p_NoMarble_NotTree => kit_is)
    (case p_NoMarble_TooLong => kit_is)
    (case p_NoMarble_NoBoard => kit_is)
    (case p_TooMany_NoPlace => kit_is)
    (case p_TooMany_NoSite => kit_is)
    (case p_TooMany_NoExit => kit_is)
    (case p_TooMany_NoMarble => kit_is)
    (case p_TooMany_NotOpen => kit_is)
    (case p_TooMany_NotBare => kit_is)
    (case p_TooMany_NotTree => kit_is)
    (case p_TooMany_TooLong => kit_is)
    (case p_TooMany_NoBoard => kit_is)
    (case p_NotOpen_NoPlace => kit_is)
    (case p_NotOpen_NoSite => kit_is)
    (case p_NotOpen_NoExit => kit_is)
    (case p_NotOpen_NoMarble => kit_is)
    (case p_NotOpen_TooMany => kit_is)
    (case p_NotOpen_NotBare => kit_is)
    (case p_NotOpen_NotTree => kit_is)
    (case p_NotOpen_TooLong => kit_is)
    (case p_NotOpen_NoBoard => kit_is)
    (case p_NotBare_NoPlace => kit_is)
    (case p_NotBare_NoSite => kit_is)
    (case p_NotBare_NoExit => kit_is)
    (case p_NotBare_NoMarble => kit_is)
    (case p_NotBare_TooMany => kit_is)
    (case p_NotBare_NotOpen => kit_is)
    (case p_NotBare_NotTree => kit_is)
    (case p_NotBare_TooLong => kit_is)
    (case p_NotBare_NoBoard => kit_is)
    (case p_NotTree_NoPlace => kit_is)
    (case p_NotTree_NoSite => kit_is)
    (case p_NotTree_NoExit => kit_is)
    (case p_NotTree_NoMarble => kit_is)
    (case p_NotTree_TooMany => kit_is)
    (case p_NotTree_NotOpen => kit_is)
    (case p_NotTree_NotBare => kit_is)
    (case p_NotTree_TooLong => kit_is)
    (case p_NotTree_NoBoard => kit_is)
    (case p_TooLong_NoPlace => kit_is)
    (case p_TooLong_NoSite => kit_is)
    (case p_TooLong_NoExit => kit_is)
    (case p_TooLong_NoMarble => kit_is)
    (case p_TooLong_TooMany => kit_is)
    (case p_TooLong_NotOpen => kit_is)
    (case p_TooLong_NotBare => kit_is)
    (case p_TooLong_NotTree => kit_is)
    (case p_TooLong_NoBoard => kit_is)
    (case p_NoBoard_NoPlace => kit_is)
    (case p_NoBoard_NoSite => kit_is)
    (case p_NoBoard_NoExit => kit_is)
    (case p_NoBoard_NoMarble => kit_is)
    (case p_NoBoard_TooMany => kit_is)
    (case p_NoBoard_NotOpen => kit_is)
    (case p_NoBoard_NotBare => kit_is)
    (case p_NoBoard_NotTree => kit_is)
    (case p_NoBoard_TooLong => kit_is)
    (case qt_NoPlace_ValueError => kit_is)
    (case qt_NoSite_ValueError => kit_is)
    (case qt_NoExit_ValueError => kit_is)
    (case qt_NoMarble_ValueError => kit_is)
    (case qt_TooMany_ValueError => kit_is)
    (case qt_NotOpen_ValueError => kit_is)
    (case qt_NotBare_ValueError => kit_is)
    (case qt_NotTree_ValueError => kit_is)
    (case qt_TooLong_ValueError => kit_is)
    (case qt_NoBoard_ValueError => kit_is)
    (case q_int_bool => kit_is)
    (case ne_NoPlace_BoardError => decide)
    (case ne_NoSite_BoardError => decide)
    (case ne_NoExit_BoardError => decide)
    (case ne_NoMarble_BoardError => decide)
    (case ne_TooMany_BoardError => decide)
    (case ne_NotOpen_BoardError => decide)
    (case ne_NotBare_BoardError => decide)
    (case ne_NotTree_BoardError => decide)
    (case ne_TooLong_BoardError => decide)
    (case ne_NoBoard_BoardError => decide)
    (case ne_NoPlace_NoSite => decide)
    (case ne_NoPlace_NoExit => decide)
    (case ne_NoPlace_NoMarble => decide)
    (case ne_NoPlace_TooMany => decide)
    (case ne_NoPlace_NotOpen => decide)
    (case ne_NoPlace_NotBare => decide)
    (case ne_NoPlace_NotTree => decide)
    (case ne_NoPlace_TooLong => decide)
    (case ne_NoPlace_NoBoard => decide)
    (case ne_NoSite_NoPlace => decide)
    (case ne_NoSite_NoExit => decide)
    (case ne_NoSite_NoMarble => decide)
    (case ne_NoSite_TooMany => decide)
    (case ne_NoSite_NotOpen => decide)
    (case ne_NoSite_NotBare => decide)
    (case ne_NoSite_NotTree => decide)
    (case ne_NoSite_TooLong => decide)
    (case ne_NoSite_NoBoard => decide)
    (case ne_NoExit_NoPlace => decide)
    (case ne_NoExit_NoSite => decide)
    (case ne_NoExit_NoMarble => decide)
    (case ne_NoExit_TooMany => decide)
    (case ne_NoExit_NotOpen => decide)
    (case ne_NoExit_NotBare => decide)
    (case ne_NoExit_NotTree => decide)
    (case ne_NoExit_TooLong => decide)
    (case ne_NoExit_NoBoard => decide)
    (case ne_NoMarble_NoPlace => decide)
    (case ne_NoMarble_NoSite => decide)
    (case ne_NoMarble_NoExit => decide)
    (case ne_NoMarble_TooMany => decide)
    (case ne_NoMarble_NotOpen => decide)
    (case ne_NoMarble_NotBare => decide)
    (case ne_NoMarble_NotTree => decide)
    (case ne_NoMarble_TooLong => decide)
    (case ne_NoMarble_NoBoard => decide)
    (case ne_TooMany_NoPlace => decide)
    (case ne_TooMany_NoSite => decide)
    (case ne_TooMany_NoExit => decide)
    (case ne_TooMany_NoMarble => decide)
    (case ne_TooMany_NotOpen => decide)
    (case ne_TooMany_NotBare => decide)
    (case ne_TooMany_NotTree => decide)
    (case ne_TooMany_TooLong => decide)
    (case ne_TooMany_NoBoard => decide)
    (case ne_NotOpen_NoPlace => decide)
    (case ne_NotOpen_NoSite => decide)
    (case ne_NotOpen_NoExit => decide)
    (case ne_NotOpen_NoMarble => decide)
    (case ne_NotOpen_TooMany => decide)
    (case ne_NotOpen_NotBare => decide)
    (case ne_NotOpen_NotTree => decide)
    (case ne_NotOpen_TooLong => decide)
    (case ne_NotOpen_NoBoard => decide)
    (case ne_NotBare_NoPlace => decide)
    (case ne_NotBare_NoSite => decide)
    (case ne_NotBare_NoExit => decide)
    (case ne_NotBare_NoMarble => decide)
    (case ne_NotBare_TooMany => decide)
    (case ne_NotBare_NotOpen => decide)
    (case ne_NotBare_NotTree => decide)
    (case ne_NotBare_TooLong => decide)
    (case ne_NotBare_NoBoard => decide)
    (case ne_NotTree_NoPlace => decide)
    (case ne_NotTree_NoSite => decide)
    (case ne_NotTree_NoExit => decide)
    (case ne_NotTree_NoMarble => decide)
    (case ne_NotTree_TooMany => decide)
    (case ne_NotTree_NotOpen => decide)
    (case ne_NotTree_NotBare => decide)
    (case ne_NotTree_TooLong => decide)
    (case ne_NotTree_NoBoard => decide)
    (case ne_TooLong_NoPlace => decide)
    (case ne_TooLong_NoSite => decide)
    (case ne_TooLong_NoExit => decide)
    (case ne_TooLong_NoMarble => decide)
    (case ne_TooLong_TooMany => decide)
    (case ne_TooLong_NotOpen => decide)
    (case ne_TooLong_NotBare => decide)
    (case ne_TooLong_NotTree => decide)
    (case ne_TooLong_NoBoard => decide)
    (case ne_NoBoard_NoPlace => decide)
    (case ne_NoBoard_NoSite => decide)
    (case ne_NoBoard_NoExit => decide)
    (case ne_NoBoard_NoMarble => decide)
    (case ne_NoBoard_TooMany => decide)
    (case ne_NoBoard_NotOpen => decide)
    (case ne_NoBoard_NotBare => decide)
    (case ne_NoBoard_NotTree => decide)
    (case ne_NoBoard_TooLong => decide)
#print axioms PySem.Challenge.cw_marblerun_k28_refusals_apart_holds
