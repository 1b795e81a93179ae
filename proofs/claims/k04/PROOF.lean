import PyProof.Rows.All
import Wide.All
import OpenK.AllK
import Wide.FinOn
import Lean
import PyProof.EqAt
import PyProof.EqKinds
import PyProof.TupleCall
import PyProof.ExcArgsOwn
import PyProof.ExcAttrAll.ValueError
import KE.KTryMore
import PyProof.NsDelKeeps
import PyProof.ExcBaseAll.ValueError
import KE.RegKTryMore
import KE.RegKIsAll
import KE.KRevSl
import PyProof.ZipIter
import PyProof.ExcClass3
import PyProof.ExcInit
import KE.KSuper
import PyProof.DictIter
import KE.KDictIter
import KE.KDictList
import PyProof.EnumStmt
import PyProof.WalksEnum
import PyProof.EnumMake
import PyProof.Rows.EnumRows
import PyProof.Rows.InDataRows
import PyProof.SumWalk
import PyProof.Rows.SeqCalls
import PyProof.WalksMore
import PyProof.Rows.SetFrom
import PyProof.SetRoads
import PyProof.Rows.TupMore
import PyProof.Rows.SortWalk
import PySem.Challenge.RW_nearlands_k04_classes_of_refusals
set_option Elab.async false
set_option linter.all false
set_option maxRecDepth 100000
namespace L2
open PySem PySem.Spec PyProof.Rows
noncomputable abbrev Key := Sum Int Str
noncomputable def keyIs : Key → Value → Bool
 | .inl k, v => Value.isInt k v
 | .inr x, v => Value.isStrOf x v
noncomputable def keyH (w : World) : Key → Int
 | .inl k => hashInt k
 | .inr x => hashStr w x
theorem keyIs_shape : ∀ {k : Key} {v : Value}, keyIs k v = true → (∃ i t, k = Sum.inl i ∧ v = Value.int i t) ∨ (∃ x t, k = Sum.inr x ∧ v = Value.str x t)
 | .inl i, v, h => by
  obtain ⟨t, e⟩ := Value.isInt_shape (k := i) (v := v) h
  exact .inl ⟨i, t, rfl, e⟩
 | .inr x, v, h => by
  obtain ⟨t, e⟩ := Value.isStrOf_shape (x := x) (v := v) h
  exact .inr ⟨x, t, rfl, e⟩
theorem key_ll (a b : Int) : decide ((Sum.inl a : Key) = Sum.inl b) = (a == b) := by
 by_cases e : a = b
 ·subst e; simp
 ·have h : ¬ (Sum.inl a : Key) = Sum.inl b := fun q => e (Sum.inl.inj q)
  rw [decide_eq_false h]
  exact (beq_eq_false_iff_ne.mpr e).symm
theorem key_rr (a b : Str) : decide ((Sum.inr a : Key) = Sum.inr b) = decide (a = b) := by
 by_cases e : a = b
 ·subst e; simp
 ·have h : ¬ (Sum.inr a : Key) = Sum.inr b := fun q => e (Sum.inr.inj q)
  rw [decide_eq_false h, decide_eq_false e]
theorem key_lr (a : Int) (b : Str) : decide ((Sum.inl a : Key) = Sum.inr b) = false := decide_eq_false (fun q => nomatch q)
theorem key_rl (a : Str) (b : Int) : decide ((Sum.inr a : Key) = Sum.inl b) = false := decide_eq_false (fun q => nomatch q)
noncomputable def mixKind (prog : Program) (w : World) : PySem.KeyKind prog w Key where
 is := keyIs
 hash := keyH w
 inj := fun v a b ha hb => by
  rcases keyIs_shape ha with ⟨i, t, rfl, rfl⟩ | ⟨x, t, rfl, rfl⟩
  ·rcases keyIs_shape hb with ⟨j, u, rfl, e⟩ | ⟨y, u, rfl, e⟩
   ·injection e with e1 _; rw [e1]
   ·exact nomatch e
  ·rcases keyIs_shape hb with ⟨j, u, rfl, e⟩ | ⟨y, u, rfl, e⟩
   ·exact nomatch e
   ·injection e with e1 _; rw [e1]
 byValue := fun k v h => by
  rcases keyIs_shape h with ⟨i, t, rfl, rfl⟩ | ⟨x, t, rfl, rfl⟩ <;> rfl
 pyHash := fun hv h => by
  rcases keyIs_shape hv with ⟨i, t, rfl, rfl⟩ | ⟨x, t, rfl, rfl⟩
  ·exact wpAny_pyHash_int h
  ·exact wpAny_pyHash_str h
 eqBool := fun hu hv h => by
  rcases keyIs_shape hu with ⟨i, t, rfl, rfl⟩ | ⟨x, t, rfl, rfl⟩
  ·rcases keyIs_shape hv with ⟨j, u, rfl, rfl⟩ | ⟨y, u, rfl, rfl⟩
   ·rw [key_ll] at h; exact wpAny_eqBool_int h
   ·rw [key_lr] at h; exact SeqAt.EqAt.int_str i t y u _ _ _ _ h
  ·rcases keyIs_shape hv with ⟨j, u, rfl, rfl⟩ | ⟨y, u, rfl, rfl⟩
   ·rw [key_rl] at h; exact SeqAt.EqAt.str_int x t j u _ _ _ _ h
   ·rw [key_rr] at h; exact wpAny_eqBool_str h
 «strs» := fun k x t v h => by
  rcases keyIs_shape h with ⟨i, u, rfl, e⟩ | ⟨y, u, rfl, e⟩
  ·exact nomatch e
  ·injection e with e1 _
   subst e1
   cases v <;> rfl
end L2
namespace L2
open PySem PySem.Spec PyProof.Rows
inductive V where
 | non | bl (b : Bool) | int (i : Int) | str (x : Str) | byt (b : Array UInt8) | flt (b : UInt64) | ref (a : Addr) | ty (n : String)
 deriving DecidableEq
noncomputable def RelV : V → Value → Prop
 | .non, u => u = Value.none
 | .bl b, u => u = Value.bool b
 | .int i, u => ∃ t, u = Value.int i t
 | .str x, u => ∃ t, u = Value.str x t
 | .byt b, u => ∃ t, u = Value.bytes b t
 | .flt b, u => ∃ t, u = Value.float b t
 | .ref a, u => u = Value.ref a
 | .ty n, u => u = Value.type n
noncomputable abbrev Vals : List V → List Value → Prop := Paired RelV
theorem Vals.length {xs : List V} {us : List Value} (r : Vals xs us) : xs.length = us.length := Paired.length r
theorem Vals.get : ∀ {xs : List V} {us : List Value} {i : Nat} {x : V}, Vals xs us → xs[i]? = some x → ∃ u, us[i]? = some u ∧ RelV x u
 | _, _, _, _, .nil, e => by simp at e
 | _, _, 0, _, .cons r _, e => by simp at e; subst e; exact ⟨_, rfl, r⟩
 | _, _, i + 1, x, .cons _ t, e => by
  obtain ⟨u, h1, h2⟩ := Vals.get (i := i) (x := x) t (by simpa using e)
  exact ⟨u, by simpa using h1, h2⟩
theorem Vals.set {x : V} {u : Value} (r : RelV x u) : ∀ {xs : List V} {us : List Value} (i : Nat), Vals xs us → Vals (xs.set i x) (us.set i u)
 | _, _, _, .nil => .nil
 | _, _, 0, .cons _ t => .cons r t
 | _, _, i + 1, .cons q t => .cons q (Vals.set r i t)
theorem Vals.append : ∀ {xs ys : List V} {us ws : List Value}, Vals xs us → Vals ys ws → Vals (xs ++ ys) (us ++ ws)
 | _, _, _, _, .nil, s => s
 | _, _, _, _, .cons r t, s => .cons r (Vals.append t s)
theorem Vals.take : ∀ {xs : List V} {us : List Value} (n : Nat), Vals xs us → Vals (xs.take n) (us.take n)
 | _, _, 0, _ => .nil
 | _, _, _ + 1, .nil => .nil
 | _, _, n + 1, .cons r t => .cons r (Vals.take n t)
theorem Vals.drop : ∀ {xs : List V} {us : List Value} (n : Nat), Vals xs us → Vals (xs.drop n) (us.drop n)
 | _, _, 0, r => r
 | _, _, _ + 1, .nil => .nil
 | _, _, n + 1, .cons _ t => Vals.drop n t
theorem Vals.none_of : ∀ {xs : List V} {us : List Value} {i : Nat}, Vals xs us → xs[i]? = none → us[i]? = none := fun {xs us i} r e => by
 have h1 := r.length
 have h2 : xs.length ≤ i := List.getElem?_eq_none_iff.mp e
 exact List.getElem?_eq_none_iff.mpr (by omega)
noncomputable def RelO : Option V → Option Value → Prop
 | some v, some u => RelV v u
 | none, none => True
 | _, _ => False
noncomputable def KV {κ : Type} : List (κ × V) → List (κ × Value) → Prop := Paired fun (p : κ × V) (q : κ × Value) => p.1 = q.1 ∧ RelV p.2 q.2
noncomputable def kV : Key → V
 | .inl i => .int i
 | .inr x => .str x
inductive HO where
 | lst (xs : List V)
 | tup (xs : List V)
 | dK (kvs : List (Key × V)) | dT (kvs : List (List Key × V))
 | set (S : Int → Bool) (n : Nat)
 | ins (C dx : Addr) (fs : List (Str × V))
 | own (x : Addr)
 | xd (fs : List (Str × V))
 | met (f x : Addr)
 | rng (lo hi : Int)
 | frz (o : Obj) (u : HO)
 | tbl (ps : Array Value)
 | ext (φ : Heap → Prop)
noncomputable abbrev Hp := Addr → Option HO
noncomputable def upd (H : Hp) (a : Addr) (o : HO) : Hp := fun b => if b = a then some o else H b
theorem upd_same {H : Hp} {a : Addr} {o : HO} : upd H a o a = some o := by unfold upd; rw [if_pos rfl]
theorem upd_ne {H : Hp} {a b : Addr} {o : HO} (h : b ≠ a) : upd H a o b = H b := by unfold upd; rw [if_neg h]
theorem ne_of_none {H : Hp} {a b : Addr} {o : HO} (h : H a = some o) (h' : H b = none) : a ≠ b := by
 intro e; subst e; rw [h] at h'; cases h'
section
variable (P : Program) (w : World)
noncomputable def ObjOk (H : Hp) (h : Heap) (a : Addr) : HO → Prop
 | .lst xs => xs.length ≤ sizeLine ∧ ∃ (its : List Value) (n : Nat), Vals xs its ∧ h.get? a = some { cls := .type "list", data := .seq its.toArray n }
 | .tup xs => xs.length ≤ sizeLine ∧ ∃ its : List Value, Vals xs its ∧ IsTup h a its.toArray
 | .dK kvs => kvs.length ≤ sizeLine ∧ (a == sysModules) = false ∧ ∃ vs, KV kvs vs ∧ h.DictOf (mixKind P w) a vs
 | .dT kvs => kvs.length ≤ sizeLine ∧ (a == sysModules) = false ∧ ∃ xs : List (List Key × Addr × Value),
   Paired (fun (p : List Key × V) (q : List Key × Addr × Value) => p.1 = q.1 ∧ H q.2.1 = some (.tup (p.1.map kV)) ∧ RelV p.2 q.2.2) kvs xs ∧
   ∃ o es ep, h.get? a = some o ∧ o.ExactDict ∧ o.data = .dict es ep ∧ es.toList = xs.map (entryOfKey (tupleKind (mixKind P w))) ∧ (xs.map (·.1)).Nodup
 | .set S n => h.SetOf (intKind P w) a S n
 | .ins C dx fs => H dx = some (.own a) ∧ fs.length ≤ 1000 ∧ dx ≠ a ∧ h.get? a = some (PySem.W.instObj C dx) ∧
   ∃ mA, h.Ns1 dx mA ∧ (∀ f, RelO (fs.lookup f) (mA f)) ∧ PySem.Within mA (fs.map (·.1))
 | .own _ => ∃ o, h.get? a = some o
 | .xd fs => ∃ mA, h.Ns1 a mA ∧ ∀ f, RelO (fs.lookup f) (mA f)
 | .rng lo hi => ∃ t u v, h.get? a = some { cls := .type "range", data := .fields #[.int lo t, .int hi u, .int 1 v] }
 | .frz o u => h.get? a = some o ∧ ObjOk H h a u
 | .tbl ps => h.get? a = some { cls := .none, data := .fields ps }
 | .met f x => h.get? a = some (PySem.W.methodObj (.ref f) (.ref x))
 | .ext φ => φ h ∧ (∃ o, h.get? a = some o) ∧ ∀ h1 h2 : Heap, φ h1 → (∀ o, h1.get? a = some o → h2.get? a = some o) → φ h2
noncomputable def HOk (H : Hp) (h : Heap) : Prop := ∀ a o, H a = some o → ObjOk P w H h a o
end
section
variable {P : Program} {w : World} {H H' : Hp} {h h' : Heap} {a : Addr} {o : HO}
theorem ObjOk.lt (x : ObjOk P w H h a o) : a < h.objs.size := by
 cases o with
 | lst xs => obtain ⟨_, _, _, _, e⟩ := x; exact Heap.lt_size e
 | tup xs => obtain ⟨_, _, _, p⟩ := x; exact p.lt
 | dK kvs => obtain ⟨_, _, _, _, o, _, _, e, _⟩ := x; exact Heap.lt_size e
 | dT kvs => obtain ⟨_, _, _, _, o, _, _, e, _⟩ := x; exact Heap.lt_size e
 | set S n => obtain ⟨o, _, _, _, e, _⟩ := x; exact Heap.lt_size e
 | ins C dx fs => obtain ⟨_, _, _, e, _⟩ := x; exact Heap.lt_size e
 | own y => obtain ⟨_, e⟩ := x; exact Heap.lt_size e
 | xd fs => obtain ⟨_, ⟨_, _, _, e, _⟩, _⟩ := x; exact Heap.lt_size e
 | rng lo hi => obtain ⟨_, _, _, e⟩ := x; exact Heap.lt_size e
 | frz ob u => obtain ⟨e, _⟩ := x; exact Heap.lt_size e
 | tbl ps => exact Heap.lt_size (show h.get? a = some _ from x)
 | met f y => exact Heap.lt_size (show h.get? a = some _ from x)
 | ext φ => obtain ⟨_, ⟨_, e⟩, _⟩ := x; exact Heap.lt_size e
theorem Paired.mapP {α β : Type} {F G : α → β → Prop} : ∀ {l₁ : List α} {l₂ : List β}, Paired F l₁ l₂ → (∀ a b, F a b → G a b) → Paired G l₁ l₂
 | _, _, .nil, _ => .nil
 | _, _, .cons r t, f => .cons (f _ _ r) (Paired.mapP t f)
theorem ObjOk.stay (x : ObjOk P w H h a o) (k : ∀ b u, (b = a ∨ H b = some (.own a)) → h.get? b = some u → h'.get? b = some u)
  (ho : ∀ b, H b = some (.own a) → H' b = some (.own a)) (ht : ∀ b xs, H b = some (.tup xs) → H' b = some (.tup xs)) : ObjOk P w H' h' a o := by
 induction o with
 | lst xs => obtain ⟨z, its, n, r, e⟩ := x; exact ⟨z, its, n, r, k _ _ (.inl rfl) e⟩
 | tup xs => obtain ⟨z, its, r, ob, e, c⟩ := x; exact ⟨z, its, r, ob, k _ _ (.inl rfl) e, c⟩
 | dK kvs => obtain ⟨z, y, vs, r, ob, es, ep, e, c⟩ := x; exact ⟨z, y, vs, r, ob, es, ep, k _ _ (.inl rfl) e, c⟩
 | dT kvs =>
  obtain ⟨z, y, xs, r, ob, es, ep, e, c⟩ := x
  exact ⟨z, y, xs, Paired.mapP r fun p q z => ⟨z.1, ht _ _ z.2.1, z.2.2⟩, ob, es, ep, k _ _ (.inl rfl) e, c⟩
 | set S n => obtain ⟨ob, es, ep, t, e, c⟩ := x; exact ⟨ob, es, ep, t, k _ _ (.inl rfl) e, c⟩
 | ins C dx fs =>
  obtain ⟨d, z, ne, e, mA, ⟨od, es, ep, e2, c⟩, r⟩ := x
  exact ⟨ho _ d, z, ne, k _ _ (.inl rfl) e, mA, ⟨od, es, ep, k _ _ (.inr d) e2, c⟩, r⟩
 | own y => obtain ⟨ob, e⟩ := x; exact ⟨ob, k _ _ (.inl rfl) e⟩
 | xd fs => obtain ⟨mA, ⟨od, es, ep, e, c⟩, r⟩ := x; exact ⟨mA, ⟨od, es, ep, k _ _ (.inl rfl) e, c⟩, r⟩
 | rng lo hi => obtain ⟨t, u, v, e⟩ := x; exact ⟨t, u, v, k _ _ (.inl rfl) e⟩
 | frz ob u ih => obtain ⟨e, q⟩ := x; exact ⟨k _ _ (.inl rfl) e, ih q⟩
 | tbl ps =>
  have e : h.get? a = some { cls := .none, data := .fields ps } := x
  show h'.get? a = some { cls := .none, data := .fields ps }
  exact k a _ (.inl rfl) e
 | met f y =>
  have e : h.get? a = some (PySem.W.methodObj (.ref f) (.ref y)) := x
  show h'.get? a = some (PySem.W.methodObj (.ref f) (.ref y))
  exact k a _ (.inl rfl) e
 | ext φ => obtain ⟨p, ⟨o, e⟩, st⟩ := x; exact ⟨st _ _ p fun o q => k _ _ (.inl rfl) q, ⟨o, k _ _ (.inl rfl) e⟩, st⟩
theorem HOk.lt (x : HOk P w H h) (e : H a = some o) : a < h.objs.size := (x a o e).lt
theorem HOk.fresh (x : HOk P w H h) (e : h.objs.size ≤ a) : H a = none := by
 cases q : H a with
 | none => rfl
 | some u => exact absurd (Nat.lt_of_lt_of_le (x.lt q) e) (Nat.lt_irrefl _)
theorem HOk.kept (x : HOk P w H h) (k : ∀ b u, h.get? b = some u → h'.get? b = some u) : HOk P w H h' := fun a o e =>
 (x a o e).stay (fun b u _ q => k b u q) (fun _ q => q) fun _ _ q => q
theorem HOk.laid (x : HOk P w H h) (k : ∀ b u, h.get? b = some u → h'.get? b = some u) (hp : h.objs.size ≤ a) (new : ObjOk P w (upd H a o) h' a o) : HOk P w (upd H a o) h' := fun b u e => by
 have hn := x.fresh hp
 by_cases hb : b = a
 ·subst hb; rw [upd_same] at e; cases e; exact new
 ·rw [upd_ne hb] at e
  exact (x b u e).stay (fun c v _ q => k c v q) (fun c q => by rw [upd_ne (ne_of_none q hn)]; exact q) fun c xs q => by rw [upd_ne (ne_of_none q hn)]; exact q
end
noncomputable def Rd (H : Hp) (a : Addr) (u : HO) : Prop := H a = some u ∨ ∃ o, H a = some (.frz o u)
theorem Rd.of {H : Hp} {a : Addr} {u : HO} (h : H a = some u) : Rd H a u := .inl h
theorem Rd.ok {P : Program} {w : World} {H : Hp} {h : Heap} {a : Addr} {u : HO} (r : Rd H a u) (x : HOk P w H h) : ObjOk P w H h a u := by
 rcases r with r | ⟨o, r⟩
 ·exact x a u r
 ·obtain ⟨_, q⟩ := x a _ r
  exact q
structure Un (fs ex : List Addr) (H H' : Hp) (h h' : Heap) : Prop where
 keep : ∀ b o, h.get? b = some o → H b = none → b ∉ fs → b ∉ ex → h'.get? b = some o
 slot : ∀ b o, h.get? b = some o → H b = none → b ∈ fs → b ∉ ex → ∃ sl, h'.get? b = some { o with slots := sl }
 free : ∀ b o, h.get? b = some o → H b = none → b ∉ ex → H' b = none
 there : ∀ b o, h.get? b = some o → b ∉ ex → ∃ o', h'.get? b = some o'
 tups : ∀ b xs, H b = some (.tup xs) → H' b = some (.tup xs)
 frzs : ∀ b o u, H b = some (.frz o u) → H' b = some (.frz o u)
 tbls : ∀ b ps, H b = some (.tbl ps) → ∃ more, H' b = some (.tbl (ps ++ more))
section
variable {fs fs' ex ex' : List Addr} {H H1 H2 : Hp} {h h1 h2 h' : Heap} {a x e : Addr} {o : HO}
theorem Un.any (u : Un fs ex H H1 h h1) {b : Addr} {ob : Obj} (q : h.get? b = some ob) (n : H b = none) (hx : b ∉ ex) : ∃ sl, h1.get? b = some { ob with slots := sl } := by
 by_cases hb : b ∈ fs
 ·exact u.slot b ob q n hb hx
 ·exact ⟨ob.slots, u.keep b ob q n hb hx⟩
theorem Un.trans (a : Un fs ex H H1 h h1) (b : Un fs ex H1 H2 h1 h2) : Un fs ex H H2 h h2 where
 keep := fun c ob q n hc hx => b.keep c ob (a.keep c ob q n hc hx) (a.free c ob q n hx) hc hx
 slot := fun c ob q n hc hx => by
  obtain ⟨sl, e1⟩ := a.slot c ob q n hc hx
  obtain ⟨sl', e2⟩ := b.slot c _ e1 (a.free c ob q n hx) hc hx
  exact ⟨sl', e2⟩
 free := fun c ob q n hx => by
  obtain ⟨o', e1⟩ := a.there c ob q hx
  exact b.free c o' e1 (a.free c ob q n hx) hx
 there := fun c ob q hx => by
  obtain ⟨o', e1⟩ := a.there c ob q hx
  exact b.there c o' e1 hx
 tups := fun c xs q => b.tups c xs (a.tups c xs q)
 frzs := fun c ob xs q => b.frzs c ob xs (a.frzs c ob xs q)
 tbls := fun c ps q => by
  obtain ⟨m1, e1⟩ := a.tbls c ps q
  obtain ⟨m2, e2⟩ := b.tbls c _ e1
  exact ⟨m1 ++ m2, by rw [e2, Array.append_assoc]⟩
theorem Un.kept (k : ∀ b u, h.get? b = some u → h'.get? b = some u) : Un fs ex H H h h' :=
 ⟨fun b ob q _ _ _ => k b ob q, fun b ob q _ _ _ => ⟨ob.slots, k b ob q⟩, fun _ _ _ n _ => n, fun b ob q _ => ⟨ob, k b ob q⟩, fun _ _ q => q, fun _ _ _ q => q, fun _ ps q => ⟨#[], by rw [q]; simp⟩⟩
theorem Un.refl : Un fs ex H H h h := Un.kept fun _ _ q => q
theorem Un.laid (k : ∀ b u, h.get? b = some u → h'.get? b = some u) (hp : h.objs.size ≤ a) (hn : H a = none) : Un fs ex H (upd H a o) h h' where
 keep := fun b u q _ _ _ => k b u q
 slot := fun b u q _ _ _ => ⟨u.slots, k b u q⟩
 free := fun b u q n _ => by rw [upd_ne (Nat.ne_of_lt (Nat.lt_of_lt_of_le (Heap.lt_size q) hp))]; exact n
 there := fun b u q _ => ⟨u, k b u q⟩
 tups := fun b xs q => by rw [upd_ne (ne_of_none q hn)]; exact q
 frzs := fun b u xs q => by rw [upd_ne (ne_of_none q hn)]; exact q
 tbls := fun b ps q => ⟨#[], by rw [upd_ne (ne_of_none q hn), q]; simp⟩
theorem Un.mono (u : Un fs ex H H1 h h1) (hs : ∀ b ∈ fs, b ∈ fs') (hx : ∀ b ∈ ex, b ∈ ex') : Un fs' ex' H H1 h h1 :=
 ⟨fun b ob q n hb he => u.keep b ob q n (fun z => hb (hs b z)) fun z => he (hx b z), fun _ _ q n _ he => u.any q n fun z => he (hx _ z), fun b ob q n he => u.free b ob q n fun z => he (hx b z), fun b ob q he => u.there b ob q fun z => he (hx b z), u.tups, u.frzs, u.tbls⟩
end
noncomputable def trk (h : Heap) (H : Hp) : List Addr := (List.range h.objs.size).filter fun a => (H a).isSome
noncomputable def hidT (h : Heap) (H : Hp) : Heap := PySem.W.hideAll h (trk h H)
theorem hidT_size (h : Heap) (H : Hp) : (hidT h H).objs.size = h.objs.size := PySem.W.hideAll_size _ _
theorem hidT_get {h : Heap} {H : Hp} {b : Addr} {o : Obj} (e : h.get? b = some o) (n : H b = none) : (hidT h H).get? b = some o :=
 PySem.W.hideAll_get _ e fun hm => by
  have q : (H b).isSome = true := (List.mem_filter.mp hm).2
  rw [n] at q; simp at q
theorem of_hidT {h : Heap} {H : Hp} {b : Addr} {o : Obj} (e : (hidT h H).get? b = some o) : h.get? b = some o ∧ H b = none := by
 have e' : h.get? b = some o := PySem.W.of_hideAll (trk h H) e
 refine ⟨e', ?_⟩
 cases q : H b with
 | none => rfl
 | some x =>
  have hm : b ∈ trk h H := List.mem_filter.mpr ⟨List.mem_range.mpr (Heap.lt_size e'), by simp [q]⟩
  have z : (hidT h H).get? b = none := PySem.W.hideAll_none (trk h H) hm
  rw [z] at e; cases e
noncomputable def allNews (g h : Heap) (L : Addr) : List (Addr × Obj) := (List.range h.objs.size).filterMap fun a => if a = L ∨ (g.get? a).isSome = true then none else (h.get? a).map fun o => (a, o)
noncomputable def rest (g h : Heap) (L d : Addr) : List (Addr × Obj) := (allNews g h L).filter fun p => decide (p.1 ≠ d)
end L2
namespace L2
open PySem PySem.Spec PyProof.Rows
structure Mod (K : PySem.W.Frag) (mg : Str → Option Value) (base : Heap) : Prop where
 kin : K.In base
 glob : base.Ns mainGlobals mg
 blt : ∃ mb, base.Ns builtinsNs mb ∧ ∀ x : Str, x ≠ "__name__" → mb x = bootBuiltins x
 nolimit : base.NoLimit
structure Cx where
 prog : Program
 w : World
 K : PySem.W.Frag
 mg : Str → Option Value
 base : Heap
 A : Around
 N : List Str
 s₀ : Shared
 H₀ : Hp
 env : Env
 outer : List Env
 stack : List Env
 ex : List Addr
 fn : Str → Bool
 calm : Bool
 pn : List (Addr × Obj)
 xe : Value → Shared → Prop
noncomputable def frs (l : List Env) : List Addr := l.filterMap (·.frame)
noncomputable abbrev Cx.fs (X : Cx) : List Addr := frs X.outer
noncomputable def Vis (sc : Scope) (x : Str) : Prop := sc.names.lookup x = some .local ∨ sc.names.lookup x = some .cell ∨ sc.names.lookup x = some .free
noncomputable def Loc (sc : Scope) (x : Str) : Prop := sc.names.lookup x = some .local ∨ sc.names.lookup x = some .cell
noncomputable def Look (env : Env) (h : Heap) (m : Str → Option Value) (x : Str) (u : Value) : Prop :=
 (env.kindOf x = some .local ∧ m x = some u) ∨ ((env.kindOf x = some .cell ∨ env.kindOf x = some .free) ∧ ∃ c, env.cells.lookup x = some c ∧ h.IsCell c (some u))
structure Cx.Ok (X : Cx) : Prop where
 mod : Mod X.K X.mg X.base
 kind : X.env.scope.kind = .function
 glob : X.env.globals = mainGlobals
 blt : X.env.builtins = builtinsNs
 above : X.s₀.heap.objs.size ≤ X.env.locals
 inj : ∀ x y c, X.env.cells.lookup x = some c → X.env.cells.lookup y = some c → x = y
 has : ∀ x, (X.env.kindOf x = some .cell ∨ X.env.kindOf x = some .free) → ∃ c, X.env.cells.lookup x = some c
 cab : ∀ x c, X.fn x = true → X.env.cells.lookup x = some c → X.s₀.heap.objs.size ≤ c
 hd : X.calm = true → X.A.handled = none
 frames : X.A.frames = some X.stack
 stk : X.stack = X.outer ∨ (X.stack = X.env :: X.outer ∧ X.env.frame = some X.env.locals)
 exf : ∀ b ∈ X.ex, b ≠ X.env.locals ∧ ∀ x c, X.env.cells.lookup x = some c → c ≠ b
 bs : ∀ b o, X.base.get? b = some o → X.s₀.heap.get? b = some o ∧ X.H₀ b = none
 bsz : X.base.objs.size ≤ X.s₀.heap.objs.size
 noex : ∀ b o, X.base.get? b = some o → b ∉ X.ex
 exfs : ∀ b ∈ X.ex, b ∉ X.fs
 funs : X.s₀.heap.FunFrames X.base X.outer
 frf : ∀ b ∈ X.fs, X.H₀ b = none
structure Inv (X : Cx) (pins : List (Addr × Obj)) (σ : List (Option V)) (H : Hp) (s : Shared) : Prop where
 ok : X.Ok
 os : s.os = X.s₀.os
 bare : AllBare s.gens
 base : Un X.fs X.ex X.H₀ H X.s₀.heap s.heap
 loc : ∃ m, s.heap.Ns X.env.locals m ∧ ∀ (i : Nat) (x : Str) (v : V), X.N[i]? = some x → σ[i]? = some (some v) → Vis X.env.scope x → ∃ u, RelV v u ∧ Look X.env s.heap m x u
 cell : ∀ x c, X.env.cells.lookup x = some c → ∃ v, s.heap.IsCell c v
 free : H X.env.locals = none
 freeC : ∀ x c, X.env.cells.lookup x = some c → H c = none
 pin : ∀ p ∈ X.pn ++ pins, s.heap.get? p.1 = some p.2 ∧ H p.1 = none ∧ p.1 ≠ X.env.locals ∧ p.1 ∉ X.fs ∧ ∀ v, p.2.data ≠ .cell v
 hok : HOk X.prog X.w H s.heap
 len : σ.length = X.N.length
section
variable {X : Cx} {pins : List (Addr × Obj)} {σ : List (Option V)} {H H' : Hp} {s : Shared} {h' : Heap}
theorem Cx.Ok.nofr (ok : X.Ok) {b : Addr} {o : Obj} (e : X.base.get? b = some o) : b ∉ X.fs := fun hb => by
 have := (ok.funs.mem hb).1
 rw [e] at this; cases this
theorem Inv.bs (I : Inv X pins σ H s) : ∀ b o, X.base.get? b = some o → s.heap.get? b = some o ∧ H b = none := fun b o e =>
 ⟨I.base.keep b o (I.ok.bs b o e).1 (I.ok.bs b o e).2 (I.ok.nofr e) (I.ok.noex b o e), I.base.free b o (I.ok.bs b o e).1 (I.ok.bs b o e).2 (I.ok.noex b o e)⟩
theorem Inv.bk (I : Inv X pins σ H s) : ∀ b o, X.base.get? b = some o → s.heap.get? b = some o := fun b o e => (I.bs b o e).1
theorem Inv.mod (I : Inv X pins σ H s) : Mod X.K X.mg X.base := I.ok.mod
theorem Inv.kIn (I : Inv X pins σ H s) : X.K.In s.heap := I.ok.mod.kin.keeps I.bk
theorem Inv.nolimit (I : Inv X pins σ H s) : s.heap.NoLimit := I.ok.mod.nolimit.keeps I.bk
theorem Inv.fr (I : Inv X pins σ H s) : ∃ m, Fr X.base X.env.locals s.heap m :=
 let ⟨m, hn, _⟩ := I.loc
 ⟨m, hn, I.bk, Nat.le_trans I.ok.bsz I.ok.above⟩
theorem Inv.lt (I : Inv X pins σ H s) : X.env.locals < s.heap.objs.size := let ⟨_, hn, _⟩ := I.loc; hn.lt
theorem Inv.sz (I : Inv X pins σ H s) : X.s₀.heap.objs.size ≤ s.heap.objs.size := Nat.le_trans I.ok.above (Nat.le_of_lt I.lt)
theorem Inv.nofs (I : Inv X pins σ H s) {a : Addr} (h : s.heap.objs.size ≤ a) : a ∉ X.fs := fun hb => by
 obtain ⟨_, o, ho, _⟩ := I.ok.funs.mem hb
 exact absurd (Nat.lt_of_lt_of_le (Heap.lt_size ho) (Nat.le_trans I.sz h)) (Nat.lt_irrefl _)
theorem Inv.cne (I : Inv X pins σ H s) : ∀ x c, X.env.cells.lookup x = some c → c ≠ X.env.locals := fun x c e z => by
 obtain ⟨v, o, ho, hd⟩ := I.cell x c e
 obtain ⟨m, ⟨o', es, ep, ho', hd', _⟩, _⟩ := I.loc
 rw [z, ho'] at ho; cases ho; rw [hd'] at hd; cases hd
theorem Inv.funs (I : Inv X pins σ H s) : s.heap.FunFrames X.base X.outer := by
 have all : ∀ (l : List Env), (∀ b ∈ frs l, b ∈ X.fs) → X.s₀.heap.FunFrames X.base l → s.heap.FunFrames X.base l := by
  intro l
  induction l with
  | nil => intro _ _; trivial
  | cons env r ih =>
   intro hs hl
   obtain ⟨hk, ⟨L, o, hf, hn, ho, hd⟩, hr⟩ := hl
   have hL : L ∈ X.fs := hs L (by unfold frs; rw [List.filterMap_cons, hf]; exact List.mem_cons_self)
   obtain ⟨sl, e⟩ := I.base.slot L o ho (I.ok.frf L hL) hL fun z => I.ok.exfs L z hL
   exact ⟨hk, ⟨L, _, hf, hn, e, hd⟩, ih (fun b hb => hs b (by unfold frs; rw [List.filterMap_cons, hf]; exact List.mem_cons_of_mem _ hb)) hr⟩
 exact all X.outer (fun _ hb => hb) I.ok.funs
theorem Inv.stack (I : Inv X pins σ H s) : s.heap.FunFrames X.base X.stack := by
 rcases I.ok.stk with e | ⟨e, hf⟩
 ·rw [e]; exact I.funs
 ·rw [e]
  obtain ⟨m, hn, _⟩ := I.loc
  refine .cons (by rw [I.ok.kind]; decide) hf hn ?_ I.funs
  exact Heap.get?_none_of_le (Nat.le_trans I.ok.bsz I.ok.above)
theorem Inv.stkSub (I : Inv X pins σ H s) : ∀ b ∈ frs X.stack, b ∈ X.env.locals :: X.fs := fun b hb => by
 rcases I.ok.stk with e | ⟨e, hf⟩
 ·rw [e] at hb; exact List.mem_cons_of_mem _ hb
 ·rw [e] at hb
  unfold frs at hb
  rw [List.filterMap_cons, hf] at hb
  exact hb
theorem Inv.stkFree (I : Inv X pins σ H s) : ∀ b ∈ frs X.stack, H b = none := fun b hb => by
 rcases List.mem_cons.mp (I.stkSub b hb) with e | hb
 ·rw [e]; exact I.free
 ·obtain ⟨_, o, ho, _⟩ := I.ok.funs.mem hb
  exact I.base.free b o ho (I.ok.frf b hb) fun z => I.ok.exfs b z hb
theorem Inv.step {g' : Array GenState} {t' : Nat} {d' : Drawn} {ch : List Addr} (I : Inv X pins σ H s)
  (hch : ∀ b ∈ ch, (b ∈ X.ex ∨ X.s₀.heap.objs.size ≤ b) ∧ b ≠ X.env.locals ∧ (∀ x c, X.env.cells.lookup x = some c → c ≠ b) ∧ ∀ p ∈ X.pn ++ pins, p.1 ≠ b)
  (keep : ∀ b o, b ≠ X.env.locals → b ∉ X.fs → b ∉ ch → s.heap.get? b = some o → H b = none → h'.get? b = some o)
  (slot : ∀ b o, b ≠ X.env.locals → b ∈ X.fs → b ∉ ch → s.heap.get? b = some o → H b = none → ∃ sl, h'.get? b = some { o with slots := sl }) (free : ∀ b o, b ∉ ch → s.heap.get? b = some o → H b = none → H' b = none)
  (there : ∀ b o, b ∉ ch → s.heap.get? b = some o → ∃ o', h'.get? b = some o')
  (tups : ∀ b xs, H b = some (.tup xs) → H' b = some (.tup xs)) (frzs : ∀ b o u, H b = some (.frz o u) → H' b = some (.frz o u)) (tbls : ∀ b ps, H b = some (.tbl ps) → ∃ more, H' b = some (.tbl (ps ++ more)))
  (ns : ∀ m, s.heap.Ns X.env.locals m → h'.Ns X.env.locals m) (hok : HOk X.prog X.w H' h') (hg : AllBare g') :
  Inv X pins σ H' { s with heap := h', gens := g', drawn := d', toks := t' } := by
 have neL : ∀ b o, X.s₀.heap.get? b = some o → b ≠ X.env.locals := fun b o e => Nat.ne_of_lt (Nat.lt_of_lt_of_le (Heap.lt_size e) I.ok.above)
 have neC : ∀ b o, X.s₀.heap.get? b = some o → b ∉ X.ex → b ∉ ch := fun b o e hx hb => by
  rcases (hch b hb).1 with z | z
  ·exact hx z
  ·exact absurd (Nat.lt_of_lt_of_le (Heap.lt_size e) z) (Nat.lt_irrefl _)
 have cellK : ∀ x c, X.env.cells.lookup x = some c → ∀ v, s.heap.IsCell c v → h'.IsCell c v := fun x c e v ⟨o, ho, hd⟩ => by
  have nch : c ∉ ch := fun z => (hch c z).2.2.1 x c e rfl
  by_cases hc : c ∈ X.fs
  ·obtain ⟨sl, q⟩ := slot c o (I.cne x c e) hc nch ho (I.freeC x c e)
   exact ⟨_, q, hd⟩
  ·exact ⟨o, keep c o (I.cne x c e) hc nch ho (I.freeC x c e), hd⟩
 refine ⟨I.ok, I.os, hg, ⟨fun b o e n hb hx => ?_, fun b o e n hb hx => ?_, fun b o e n hx => ?_, fun b o e hx => ?_, fun b xs e => tups b xs (I.base.tups b xs e), fun b o xs e => frzs b o xs (I.base.frzs b o xs e), fun b ps e => ?_⟩, ?_, fun x c e => ?_, ?_, fun x c e => ?_, fun p hp => ?_, hok, I.len⟩
 ·exact keep b o (neL b o e) hb (neC b o e hx) (I.base.keep b o e n hb hx) (I.base.free b o e n hx)
 ·obtain ⟨sl, e1⟩ := I.base.slot b o e n hb hx
  obtain ⟨sl', e2⟩ := slot b _ (neL b o e) hb (neC b o e hx) e1 (I.base.free b o e n hx)
  exact ⟨sl', e2⟩
 ·obtain ⟨o', e1⟩ := I.base.there b o e hx
  exact free b o' (neC b o e hx) e1 (I.base.free b o e n hx)
 ·obtain ⟨o', e1⟩ := I.base.there b o e hx
  exact there b o' (neC b o e hx) e1
 ·obtain ⟨m1, e1⟩ := I.base.tbls b ps e
  obtain ⟨m2, e2⟩ := tbls b _ e1
  exact ⟨m1 ++ m2, by rw [e2, Array.append_assoc]⟩
 ·obtain ⟨m, hn, hl⟩ := I.loc
  refine ⟨m, ns m hn, fun i x v e1 e2 e3 => ?_⟩
  obtain ⟨u, r, l⟩ := hl i x v e1 e2 e3
  refine ⟨u, r, ?_⟩
  rcases l with l | ⟨k, c, e, z⟩
  ·exact .inl l
  ·exact .inr ⟨k, c, e, cellK x c e _ z⟩
 ·obtain ⟨v, z⟩ := I.cell x c e
  exact ⟨v, cellK x c e v z⟩
 ·obtain ⟨m, ⟨o, _, _, ho, _⟩, _⟩ := I.loc
  exact free _ o (fun z => (hch _ z).2.1 rfl) ho I.free
 ·obtain ⟨v, o, ho, hd⟩ := I.cell x c e
  exact free c o (fun z => (hch c z).2.2.1 x c e rfl) ho (I.freeC x c e)
 ·obtain ⟨e, n, ne, nf, d⟩ := I.pin p hp
  have nch : p.1 ∉ ch := fun z => (hch p.1 z).2.2.2 p hp rfl
  exact ⟨keep p.1 p.2 ne nf nch e n, free p.1 p.2 nch e n, ne, nf, d⟩
theorem Inv.un {t' : Nat} (I : Inv X pins σ H s) (u : Un X.fs [] H H' s.heap h') (hok : HOk X.prog X.w H' h') : Inv X pins σ H' { s with heap := h', toks := t' } := by
 obtain ⟨m, ⟨o, es, ep, ho, r⟩, _⟩ := id I.loc
 obtain ⟨sl, hL⟩ := u.any ho I.free (by simp)
 exact I.step (g' := s.gens) (d' := s.drawn) (ch := []) (fun _ z => nomatch z) (fun b o _ hb _ e n => u.keep b o e n hb (by simp)) (fun b o _ hb _ e n => u.slot b o e n hb (by simp)) (fun b o _ e n => u.free b o e n (by simp)) (fun b o _ e => u.there b o e (by simp)) u.tups u.frzs u.tbls (fun m' hm => by
  obtain ⟨o', es', ep', ho', r'⟩ := hm
  rw [ho] at ho'; cases ho'
  exact ⟨_, es', ep', hL, r'⟩) hok I.bare
theorem Inv.call {g' : Array GenState} {t' : Nat} {d' : Drawn} {ch : List Addr} (I : Inv X pins σ H s) (u : Un (frs X.stack) ch H H' s.heap h') (hok : HOk X.prog X.w H' h') (hg : AllBare g')
  (hch : ∀ b ∈ ch, (b ∈ X.ex ∨ X.s₀.heap.objs.size ≤ b) ∧ b ≠ X.env.locals ∧ (∀ x c, X.env.cells.lookup x = some c → c ≠ b) ∧ ∀ p ∈ X.pn ++ pins, p.1 ≠ b) :
  Inv X pins σ H' { s with heap := h', gens := g', drawn := d', toks := t' } := by
 obtain ⟨m, ⟨o, es, ep, ho, r⟩, _⟩ := id I.loc
 obtain ⟨sl, hL⟩ := u.any ho I.free fun z => (hch _ z).2.1 rfl
 exact I.step (ch := ch) hch (fun b o hL hb hc e n => u.keep b o e n (fun z => (List.mem_cons.mp (I.stkSub b z)).elim hL hb) hc) (fun b o _ _ hc e n => u.any e n hc) (fun b o hc e n => u.free b o e n hc) (fun b o hc e => u.there b o e hc) u.tups u.frzs u.tbls (fun m' hm => by
  obtain ⟨o', es', ep', ho', r'⟩ := hm
  rw [ho] at ho'; cases ho'
  exact ⟨_, es', ep', hL, r'⟩) hok hg
theorem Inv.turned {t' : Nat} {it : Addr} (I : Inv X pins σ H s) (k : ∀ b o, b ≠ it → s.heap.get? b = some o → h'.get? b = some o) (hn : H it = none) (hL : it ≠ X.env.locals)
  (h1 : it ∈ X.ex ∨ X.s₀.heap.objs.size ≤ it) (h2 : ∀ x c, X.env.cells.lookup x = some c → c ≠ it) (h3 : ∀ p ∈ X.pn ++ pins, p.1 ≠ it) : Inv X pins σ H { s with heap := h', toks := t' } := by
 have nit : ∀ b u, H b = some u → b ≠ it := fun b u e z => by rw [z, hn] at e; cases e
 refine I.step (g' := s.gens) (d' := s.drawn) (ch := [it]) (fun b hb => ?_) (fun b o _ _ hc e _ => k b o (fun z => hc (by simp [z])) e) (fun b o _ _ hc e _ => ⟨o.slots, k b o (fun z => hc (by simp [z])) e⟩) (fun _ _ _ _ n => n)
  (fun b o hc e => ⟨o, k b o (fun z => hc (by simp [z])) e⟩) (fun _ _ e => e) (fun _ _ _ e => e) (fun b ps e => ⟨#[], by rw [e]; simp⟩) (fun m hm => ?_) (fun b u e => ?_) I.bare
 ·have e : b = it := by simpa using hb
  subst e
  exact ⟨h1, hL, h2, h3⟩
 ·obtain ⟨o, es, ep, ho, r⟩ := hm
  exact ⟨o, es, ep, k _ o (Ne.symm hL) ho, r⟩
 ·refine (I.hok b u e).stay (fun c v hc q => k c v ?_ q) (fun _ q => q) fun _ _ q => q
  rcases hc with z | z
  ·rw [z]; exact nit b u e
  ·exact nit c _ z
theorem Inv.tok (I : Inv X pins σ H s) (t : Nat) : Inv X pins σ H { s with toks := t } := I.un (h' := s.heap) (t' := t) Un.refl I.hok
theorem Inv.kept {t' : Nat} (I : Inv X pins σ H s) (k : ∀ b u, s.heap.get? b = some u → h'.get? b = some u) : Inv X pins σ H { s with heap := h', toks := t' } := I.un (Un.kept k) (I.hok.kept k)
theorem Inv.laid {a : Addr} {o : HO} {t' : Nat} (I : Inv X pins σ H s) (k : ∀ b u, s.heap.get? b = some u → h'.get? b = some u) (hp : s.heap.objs.size ≤ a) (new : ObjOk X.prog X.w (upd H a o) h' a o) :
  Inv X pins σ (upd H a o) { s with heap := h', toks := t' } := I.un (Un.laid k hp (I.hok.fresh hp)) (I.hok.laid k hp new)
theorem Inv.pins_of {pins' : List (Addr × Obj)} (I : Inv X pins σ H s) (h : ∀ p ∈ pins', s.heap.get? p.1 = some p.2 ∧ H p.1 = none ∧ p.1 ≠ X.env.locals ∧ p.1 ∉ X.fs ∧ ∀ v, p.2.data ≠ .cell v) : Inv X pins' σ H s :=
 ⟨I.ok, I.os, I.bare, I.base, I.loc, I.cell, I.free, I.freeC, fun p hp => (List.mem_append.mp hp).elim (fun z => I.pin p (List.mem_append_left _ z)) (h p), I.hok, I.len⟩
theorem nodup_ix {N : List Str} (hN : N.Nodup) {i j : Nat} {x : Str} (a : N[i]? = some x) (b : N[j]? = some x) : i = j := by
 obtain ⟨h1, e1⟩ := List.getElem?_eq_some_iff.mp a
 obtain ⟨h2, e2⟩ := List.getElem?_eq_some_iff.mp b
 exact (List.getElem_inj hN).mp (e1.trans e2.symm)
theorem store_ok2 {M : Model} {A : Around} {E : Value → Shared → Prop} {i : Nat} {x : Str} {v : V} {u : Value} {Q : Unit → Shared → Prop} (I : Inv X pins σ H s) (hN : X.N.Nodup) (hi : X.N[i]? = some x) (hx : Loc X.env.scope x) (r : RelV v u)
  (h : ∀ s', Inv X pins (σ.set i (some v)) H s' → (∃ a, Heap.SameBut a s.heap s'.heap ∧ (a = X.env.locals ∨ X.env.cells.lookup x = some a)) → Q () s') (hf : X.fn x = true ∨ X.env.scope.names.lookup x = some .local := by first | exact .inl rfl | exact .inr rfl | assumption) : wpAny M A (storeName X.env x u) Q E s := by
 obtain ⟨m, hn, hl⟩ := id I.loc
 have hcls : (X.env.scope.kind == .class || (X.env.scope.kind == .module && X.env.locals != X.env.globals)) = false := by rw [I.ok.kind]; rfl
 have hiσ : i < σ.length := by rw [I.len]; exact (List.getElem?_eq_some_iff.mp hi).1
 have cne := I.cne
 have tracked : ∀ {a : Addr} {h' : Heap}, (∃ o, s.heap.get? a = some o ∧ H a = none) → Heap.SameBut a s.heap h' → HOk X.prog X.w H h' := fun {a h'} ha hs b ob e => by
  obtain ⟨_, _, hfree⟩ := ha
  refine (I.hok b ob e).stay (fun c w' hc q => (hs.2 c ?_).trans q) (fun _ q => q) fun _ _ q => q
  rintro rfl
  rcases hc with rfl | hc
  ·rw [hfree] at e; cases e
  ·rw [hfree] at hc; cases hc
 rcases hx with hk | hk
 ·refine wpAny_storeName_local hk hn (fun h' hn' hs => ?_) hcls
  obtain ⟨oL, _, _, hoL, _⟩ := id hn
  refine h _ ⟨I.ok, I.os, I.bare, ⟨fun b o e n hb hx => ?_, fun b o e n hb hx => ?_, I.base.free, fun b o e hx => ?_, I.base.tups, I.base.frzs, I.base.tbls⟩, ⟨_, hn', fun j y v' e1 e2 e3 => ?_⟩, fun y c e => ?_, I.free, I.freeC, fun p hp => ?_, tracked ⟨oL, hoL, I.free⟩ hs, by simpa using I.len⟩ ⟨_, hs, .inl rfl⟩
  ·exact (hs.2 b (Nat.ne_of_lt (Nat.lt_of_lt_of_le (Heap.lt_size e) I.ok.above))).trans (I.base.keep b o e n hb hx)
  ·obtain ⟨sl, e1⟩ := I.base.slot b o e n hb hx
   exact ⟨sl, (hs.2 b (Nat.ne_of_lt (Nat.lt_of_lt_of_le (Heap.lt_size e) I.ok.above))).trans e1⟩
  ·obtain ⟨o', e1⟩ := I.base.there b o e hx
   exact ⟨o', (hs.2 b (Nat.ne_of_lt (Nat.lt_of_lt_of_le (Heap.lt_size e) I.ok.above))).trans e1⟩
  ·by_cases hj : j = i
   ·subst hj
    rw [hi] at e1; cases e1
    rw [List.getElem?_set_self hiσ] at e2
    cases e2
    exact ⟨u, r, .inl ⟨hk, by simp⟩⟩
   ·rw [List.getElem?_set_ne (Ne.symm hj)] at e2
    obtain ⟨u', r', q⟩ := hl j y v' e1 e2 e3
    refine ⟨u', r', ?_⟩
    rcases q with ⟨k, e⟩ | ⟨k, c, e, z⟩
    ·refine .inl ⟨k, ?_⟩
     have : y ≠ x := fun e => hj (nodup_ix hN e1 (e ▸ hi))
     simp [this, e]
    ·exact .inr ⟨k, c, e, z.sameBut hs (cne y c e)⟩
  ·obtain ⟨w', z⟩ := I.cell y c e
   exact ⟨w', z.sameBut hs (cne y c e)⟩
  ·obtain ⟨e, n, ne, nf, d⟩ := I.pin p hp
   exact ⟨(hs.2 p.1 ne).trans e, n, ne, nf, d⟩
 ·have hfn : X.fn x = true := by
   rcases hf with z | z
   ·exact z
   ·rw [z] at hk; cases hk
  obtain ⟨c, hc⟩ := I.ok.has x (.inl hk)
  obtain ⟨w', z⟩ := I.cell x c hc
  refine wpAny_storeName_cell I.ok.kind hk hc z (fun h' hc' hs => ?_)
  obtain ⟨oc, hoc, hocd⟩ := id z
  refine h { s with heap := h' } ⟨I.ok, I.os, I.bare, ⟨fun b o e n hb hx => ?_, fun b o e n hb hx => ?_, I.base.free, fun b o e hx => ?_, I.base.tups, I.base.frzs, I.base.tbls⟩, ⟨m, hn.sameBut hs (Ne.symm (cne x c hc)), fun j y v' e1 e2 e3 => ?_⟩, fun y c' e => ?_, I.free, I.freeC, fun p hp => ?_, tracked ⟨oc, hoc, I.freeC x c hc⟩ hs, by simpa using I.len⟩ ⟨c, hs, .inr hc⟩
  ·exact (hs.2 b (Nat.ne_of_lt (Nat.lt_of_lt_of_le (Heap.lt_size e) (I.ok.cab x c hfn hc)))).trans (I.base.keep b o e n hb hx)
  ·obtain ⟨sl, e1⟩ := I.base.slot b o e n hb hx
   exact ⟨sl, (hs.2 b (Nat.ne_of_lt (Nat.lt_of_lt_of_le (Heap.lt_size e) (I.ok.cab x c hfn hc)))).trans e1⟩
  ·obtain ⟨o', e1⟩ := I.base.there b o e hx
   exact ⟨o', (hs.2 b (Nat.ne_of_lt (Nat.lt_of_lt_of_le (Heap.lt_size e) (I.ok.cab x c hfn hc)))).trans e1⟩
  ·by_cases hj : j = i
   ·subst hj
    rw [hi] at e1; cases e1
    rw [List.getElem?_set_self hiσ] at e2
    cases e2
    exact ⟨u, r, .inr ⟨.inl hk, c, hc, hc'⟩⟩
   ·rw [List.getElem?_set_ne (Ne.symm hj)] at e2
    obtain ⟨u', r', q⟩ := hl j y v' e1 e2 e3
    refine ⟨u', r', ?_⟩
    rcases q with q | ⟨k, c', e, z'⟩
    ·exact .inl q
    ·refine .inr ⟨k, c', e, z'.sameBut hs ?_⟩
     rintro rfl
     exact hj (nodup_ix hN e1 (I.ok.inj _ _ _ e hc ▸ hi))
  ·by_cases hcc : c' = c
   ·subst hcc; exact ⟨_, hc'⟩
   ·obtain ⟨w2, z2⟩ := I.cell y c' e
    exact ⟨w2, z2.sameBut hs hcc⟩
  ·obtain ⟨e, n, ne, nf, d⟩ := I.pin p hp
   refine ⟨(hs.2 p.1 ?_).trans e, n, ne, nf, d⟩
   intro q
   rw [q, hoc] at e
   have q' : oc = p.2 := Option.some.inj e
   exact d w' (by rw [← q']; exact hocd)
theorem store_ok {M : Model} {A : Around} {E : Value → Shared → Prop} {i : Nat} {x : Str} {v : V} {u : Value} {Q : Unit → Shared → Prop} (I : Inv X pins σ H s) (hN : X.N.Nodup) (hi : X.N[i]? = some x) (hx : Loc X.env.scope x) (r : RelV v u)
  (h : ∀ s', Inv X pins (σ.set i (some v)) H s' → Q () s') (hf : X.fn x = true ∨ X.env.scope.names.lookup x = some .local := by first | exact .inl rfl | exact .inr rfl | assumption) : wpAny M A (storeName X.env x u) Q E s :=
 store_ok2 I hN hi hx r (fun s' I' _ => h s' I') hf
theorem Inv.call' {s' : Shared} {ch : List Addr} (I : Inv X pins σ H s) (ho : s'.os = s.os) (u : Un (frs X.stack) ch H H' s.heap s'.heap) (hok : HOk X.prog X.w H' s'.heap) (hg : AllBare s'.gens)
  (hch : ∀ b ∈ ch, (b ∈ X.ex ∨ X.s₀.heap.objs.size ≤ b) ∧ b ≠ X.env.locals ∧ (∀ x c, X.env.cells.lookup x = some c → c ≠ b) ∧ ∀ p ∈ X.pn ++ pins, p.1 ≠ b) : Inv X pins σ H' s' := by
 obtain ⟨h', g', d', t', o'⟩ := s'
 have e : o' = s.os := ho
 subst e
 exact I.call (g' := g') (t' := t') (d' := d') u hok hg hch
end
noncomputable abbrev XK := Value → Option Addr → Hp → Prop
noncomputable abbrev St := List (Option V)
noncomputable abbrev VK := V → Hp → Prop
noncomputable abbrev TE := St → Hp → VK → Prop
noncomputable abbrev TT := St → Hp → (Bool → Hp → Prop) → Prop
noncomputable abbrev TA := St → Hp → (List V → Hp → Prop) → Prop
structure Ends where
 nx : St → Hp → Prop
 rt : VK
 bk : St → Hp → Prop := fun _ _ => False
 ct : St → Hp → Prop := fun _ _ => False
noncomputable abbrev TS := Ends → St → Hp → Prop
noncomputable def EP (X : Cx) (pins : List (Addr × Obj)) (σ : St) (Q : VK) (u : Value) (s' : Shared) : Prop := ∃ v H', Inv X pins σ H' s' ∧ RelV v u ∧ Q v H'
noncomputable def TP (X : Cx) (pins : List (Addr × Obj)) (σ : St) (Q : Bool → Hp → Prop) (b : Bool) (s' : Shared) : Prop := ∃ H', Inv X pins σ H' s' ∧ Q b H'
noncomputable def AP (X : Cx) (pins : List (Addr × Obj)) (σ : St) (Q : List V → Hp → Prop) (us : List Value) (s' : Shared) : Prop := ∃ vs H', Inv X pins σ H' s' ∧ Vals vs us ∧ Q vs H'
noncomputable def SP (X : Cx) (pins : List (Addr × Obj)) (D : Ends) (f : Flow) (s' : Shared) : Prop :=
 match f with
 | .next => ∃ σ' H', Inv X pins σ' H' s' ∧ D.nx σ' H'
 | .brk => ∃ σ' H', Inv X pins σ' H' s' ∧ D.bk σ' H'
 | .cont => ∃ σ' H', Inv X pins σ' H' s' ∧ D.ct σ' H'
 | .ret u => ∃ v σ' H', Inv X pins σ' H' s' ∧ RelV v u ∧ D.rt v H'
noncomputable def PE (X : Cx) (e : Expr) (t : TE) : Prop :=
 ∀ (pins : List (Addr × Obj)) (s : Shared) (σ : St) (H : Hp) (Q : VK), Inv X pins σ H s → t σ H Q → wpAny (model X.prog X.w) X.A (eval e X.env) (EP X pins σ Q) X.xe s
noncomputable def PT (X : Cx) (e : Expr) (t : TT) : Prop :=
 ∀ (pins : List (Addr × Obj)) (s : Shared) (σ : St) (H : Hp) (Q : Bool → Hp → Prop), Inv X pins σ H s → t σ H Q → wpAny (model X.prog X.w) X.A (isTrue e X.env (eval e X.env)) (TP X pins σ Q) X.xe s
noncomputable def PW (X : Cx) (e : Expr) (t : TT) : Prop :=
 ∀ (whole : Sem Value) (pins : List (Addr × Obj)) (s : Shared) (σ : St) (H : Hp) (Q : Bool → Hp → Prop), Inv X pins σ H s → t σ H Q → wpAny (model X.prog X.w) X.A (isTrue e X.env whole) (TP X pins σ Q) X.xe s
theorem PW.pt {X : Cx} {e : Expr} {t : TT} (h : PW X e t) : PT X e t := h _
noncomputable def PA (X : Cx) (es : List Expr) (t : TA) : Prop :=
 ∀ (pos : Pos) (pins : List (Addr × Obj)) (s : Shared) (σ : St) (H : Hp) (Q : List V → Hp → Prop), Inv X pins σ H s → t σ H Q → wpAny (model X.prog X.w) X.A (spliced (backTo pos (starEach es X.env))) (AP X pins σ Q) X.xe s
noncomputable def PS (X : Cx) (st : Stmt) (t : TS) : Prop :=
 ∀ (pins : List (Addr × Obj)) (s : Shared) (σ : St) (H : Hp) (D : Ends), Inv X pins σ H s → t D σ H → wpAny (model X.prog X.w) X.A (exec st X.env) (SP X pins D) X.xe s
noncomputable def PSs (X : Cx) (st : List Stmt) (t : TS) : Prop :=
 ∀ (pins : List (Addr × Obj)) (s : Shared) (σ : St) (H : Hp) (D : Ends), Inv X pins σ H s → t D σ H → wpAny (model X.prog X.w) X.A (execs st X.env) (SP X pins D) X.xe s
theorem thn {α : Type} {t : Sem α} {Q Q' : α → Shared → Prop} {M : Model} {A : Around} {E : Value → Shared → Prop} {s : Shared} (h : wpAny M A t Q E s) (hQ : ∀ a s, Q a s → Q' a s) : wpAny M A t Q' E s := wpAny_mono h hQ fun _ _ x => x
end L2
namespace L2
open PySem PySem.Spec PyProof.Rows
section
variable {X : Cx}
noncomputable def tVar (i : Nat) : TE := fun σ H Q => ∃ v, σ[i]? = some (some v) ∧ Q v H
noncomputable def tC (v : V) : TE := fun _ H Q => Q v H
theorem pe_var {i : Nat} {x : Str} {pos : Pos} (hN : X.N[i]? = some x) (hv : Vis X.env.scope x) (hd : (x == ("__debug__" : Str)) = false := by decide) (hcd : (x == ("__classdict__" : Str)) = false := by decide) : PE X (.Name x pos) (tVar i) := by
 intro pins s σ H Q I h
 obtain ⟨v, e, h⟩ := h
 obtain ⟨m, hn, hl⟩ := I.loc
 obtain ⟨u, r, l⟩ := hl i x v hN e hv
 have fin : EP X pins σ Q u s := ⟨v, H, I, r, h⟩
 rcases l with ⟨hk, hm⟩ | ⟨hk, c, hc, hcell⟩
 ·exact wpAny_Name (wpAny_loadName_local I.ok.kind hk hn hm fin) hd
 ·rcases hk with hk | hk
  ·exact wpAny_Name (wpAny_loadName_cell I.ok.kind hk hc hcell fin) hd
  ·exact wpAny_Name (wpAny_loadName_free I.ok.kind hk hc hcell fin hcd) hd
theorem pe_int {i j pos} : PE X (.Constant (.int i) j pos) (tC (.int i)) := fun _ _ _ H _ I h => wpAny_Constant_int ⟨.int i, H, I.tok _, ⟨_, rfl⟩, h⟩
theorem pe_bl {b j pos} : PE X (.Constant (.bool b) j pos) (tC (.bl b)) := fun _ _ _ H _ I h => Constant_bool ⟨.bl b, H, I, rfl, h⟩
theorem pe_non {j pos} : PE X (.Constant .none j pos) (tC .non) := fun _ _ _ H _ I h => Constant_none ⟨.non, H, I, rfl, h⟩
theorem pe_str {x j pos} : PE X (.Constant (.str x) j pos) (tC (.str x)) := fun _ _ _ H _ I h => Calls.Constant_str ⟨.str x, H, I.tok _, ⟨_, rfl⟩, h⟩
noncomputable def Gl (X : Cx) (x : Str) : Prop := X.env.kindOf x = some .globalImplicit
theorem ld_glob {E : Value → Shared → Prop} {pins : List (Addr × Obj)} {s : Shared} {σ : St} {H : Hp} {x : Str} {u : Value} {pos : Pos} {Q : Value → Shared → Prop} (I : Inv X pins σ H s) (hg : Gl X x) (hm : X.mg x = some u) (h : Q u s)
  (hd : (x == ("__debug__" : Str)) = false := by decide) : wpAny (model X.prog X.w) X.A (eval (.Name x pos) X.env) Q E s :=
 Calls.Name_function_global I.ok.kind hg (Calls.loadGlobal_global (by rw [I.ok.glob]; exact I.mod.glob.keeps I.bk) hm h) hd
theorem ld_blt {E : Value → Shared → Prop} {pins : List (Addr × Obj)} {s : Shared} {σ : St} {H : Hp} {x : Str} {u : Value} {pos : Pos} {Q : Value → Shared → Prop} (I : Inv X pins σ H s) (hg : Gl X x) (hm : X.mg x = none) (hv : bootBuiltins x = some u) (h : Q u s)
  (hn : x ≠ "__name__" := by decide) (hd : (x == ("__debug__" : Str)) = false := by decide) : wpAny (model X.prog X.w) X.A (eval (.Name x pos) X.env) Q E s := by
 obtain ⟨mb, h1, h2⟩ := I.mod.blt
 exact Calls.Name_function_global I.ok.kind hg (Calls.loadGlobal_builtin (by rw [I.ok.glob]; exact I.mod.glob.keeps I.bk) hm (by rw [I.ok.blt]; exact h1.keeps I.bk) ((h2 x hn).trans hv) h) hd
theorem pe_glob {x : Str} {v : V} {u : Value} {pos : Pos} (hg : Gl X x) (hm : X.mg x = some u) (r : RelV v u) (hd : (x == ("__debug__" : Str)) = false := by decide) : PE X (.Name x pos) (tC v) :=
 fun _ _ _ H _ I h => ld_glob I hg hm ⟨v, H, I, r, h⟩ hd
theorem pe_bltn {x : Str} {v : V} {u : Value} {pos : Pos} (hg : Gl X x) (hm : X.mg x = none) (hv : bootBuiltins x = some u) (r : RelV v u) (hn : x ≠ "__name__" := by decide) (hd : (x == ("__debug__" : Str)) = false := by decide) : PE X (.Name x pos) (tC v) :=
 fun _ _ _ H _ I h => ld_blt I hg hm hv ⟨v, H, I, r, h⟩ hn hd
variable {a b : Expr} {ta tb : TE} {pos : Pos}
noncomputable def PC (X : Cx) (op : CmpOp) (a b : Expr) (t : TE) : Prop :=
 ∀ (pins : List (Addr × Obj)) (s : Shared) (σ : St) (H : Hp) (Q : VK), Inv X pins σ H s → t σ H Q →
  wpAny (model X.prog X.w) X.A (eval a X.env) (fun v s₁ => wpAny (model X.prog X.w) X.A (eval b X.env) (fun u s₂ => wpAny (model X.prog X.w) X.A (compareOp op v u) (EP X pins σ Q) X.xe s₂) X.xe s₁) X.xe s
theorem nobehind (b : Expr) {op : CmpOp} (h : op ≠ .In) (h2 : op ≠ .NotIn) : behindInMarks op b = false := by
 have e1 : (op == CmpOp.In) = false := by cases op <;> first | rfl | exact absurd rfl h
 have e2 : (op == CmpOp.NotIn) = false := by cases op <;> first | rfl | exact absurd rfl h2
 cases b <;> simp [behindInMarks, e1, e2]
noncomputable def tIsN (ta : TE) : TE := fun σ H Q => ta σ H fun x H1 => Q (.bl (decide (x = .non))) H1
noncomputable def tNotN (ta : TE) : TE := fun σ H Q => ta σ H fun x H1 => Q (.bl (!decide (x = .non))) H1
theorem RelV.none_iff {x : V} {v : Value} (r : RelV x v) : (v == Value.none) = decide (x = .non) := by
 cases x with
 | non => cases r; rfl
 | bl _ => cases r; rfl
 | int _ => obtain ⟨t, rfl⟩ := r; rfl
 | str _ => obtain ⟨t, rfl⟩ := r; rfl
 | byt _ => obtain ⟨t, rfl⟩ := r; rfl
 | flt _ => obtain ⟨t, rfl⟩ := r; rfl
 | ref _ => cases r; rfl
 | ty _ => cases r; rfl
theorem pc_isN {j pos'} (ha : PE X a ta) : PC X .Is a (.Constant .none j pos') (tIsN ta) := by
 intro pins s σ H Q I h
 refine thn (ha pins s σ H _ I h) fun v s1 ⟨x, H1, I1, r1, q1⟩ => ?_
 exact Constant_none (is_none_gen ⟨.bl _, H1, I1, by rw [r1.none_iff]; rfl, q1⟩)
noncomputable def tB (t : TE) : TT := fun σ H Q => t σ H fun x H1 => ∃ c, x = .bl c ∧ Q c H1
theorem pt_cmp {op : CmpOp} {t : TE} (h : PC X op a b t) (h1 : behindInMarks op b = false := by first | exact nobehind _ (by decide) (by decide) | rfl) : PT X (.Compare a [op] [b] pos) (tB t) := by
 intro pins s σ H Q I hw
 refine wpAny_isTrue_Compare1 (thn (h pins s σ H _ I hw) fun v s1 h1 => thn h1 fun u s2 h2 => thn h2 fun c s3 ⟨x, H1, I1, r1, q1⟩ => ?_) h1
 obtain ⟨d, rfl, q⟩ := q1
 cases r1
 exact wpAny_truthy_bool ⟨H1, I1, q⟩
theorem pt_val {e : Expr} {t : TE} (h : PE X e t) (he : ∀ whole, isTrue e X.env whole = (do let v ← whole; standAt e.pos; holding [v] (truthy v)) := by intro _; rfl) : PT X e (tB t) := by
 intro pins s σ H Q I hw
 refine isTrue_plain (thn (h pins s σ H _ I hw) fun v s1 ⟨x, H1, I1, r1, q1⟩ => ?_) (he _)
 obtain ⟨d, rfl, q⟩ := q1
 cases r1
 exact wpAny_truthy_bool ⟨H1, I1, q⟩
variable {tA tB' : TT} {rest : List Expr}
noncomputable def tAnd (t u : TT) : TT := fun σ H Q => t σ H fun c H1 => if c = true then u σ H1 Q else Q false H1
noncomputable def tOr (t u : TT) : TT := fun σ H Q => t σ H fun c H1 => if c = true then Q true H1 else u σ H1 Q
noncomputable def tNot (t : TT) : TT := fun σ H Q => t σ H fun c H1 => Q (!c) H1
theorem pw_or1 (ha : PT X a tA) : PW X (.BoolOp .Or [a] pos) tA := by
 intro wh pins s σ H Q I h
 refine isTrue_or (thn (ha pins s σ H Q I h) fun c s1 e => ?_)
 cases c with
 | false => exact isTrue_or_nil e
 | true => exact e
theorem pw_or (ha : PT X a tA) (hb : PW X (.BoolOp .Or (b :: rest) pos) tB') : PW X (.BoolOp .Or (a :: b :: rest) pos) (tOr tA tB') := by
 intro wh pins s σ H Q I h
 refine isTrue_or (thn (ha pins s σ H _ I h) fun c s1 ⟨H1, I1, q1⟩ => ?_)
 cases c with
 | true => exact ⟨H1, I1, q1⟩
 | false => exact hb wh pins s1 σ H1 Q I1 q1
theorem pt_not (ha : PT X a tA) : PT X (.UnaryOp .Not a pos) (tNot tA) := by
 intro pins s σ H Q I h
 exact isTrue_not (ha pins s σ H (fun c H1 => Q (!c) H1) I h)
noncomputable def tAndV (ta tb : TE) : TE := fun σ H Q => ta σ H fun x H1 => ∃ c, x = .bl c ∧ if c = true then tb σ H1 Q else Q (.bl false) H1
noncomputable def tOrV (ta tb : TE) : TE := fun σ H Q => ta σ H fun x H1 => ∃ c, x = .bl c ∧ if c = true then Q (.bl true) H1 else tb σ H1 Q
noncomputable def tNotV (ta : TE) : TE := fun σ H Q => ta σ H fun x H1 => ∃ c, x = .bl c ∧ Q (.bl (!c)) H1
noncomputable def tIf (t : TT) (ta tb : TE) : TE := fun σ H Q => t σ H fun c H1 => if c = true then ta σ H1 Q else tb σ H1 Q
end
end L2
namespace L2
open PySem PySem.Spec PyProof.Rows
noncomputable def SqL (K : PySem.W.Frag) (H : Hp) (a : Addr) (xs : List V) : Prop :=
 Rd H a (.lst xs) ∨
  ∃ (o : Obj) (its : Array Value) (n : Nat), K.lookup a = some o ∧ o.cls = .type "list" ∧ o.dict = none ∧ o.data = .seq its n ∧ its.size ≤ sizeLine ∧ Vals xs its.toList
noncomputable def SqT (K : PySem.W.Frag) (H : Hp) (a : Addr) (xs : List V) : Prop :=
 Rd H a (.tup xs) ∨
  ∃ (o : Obj) (its : Array Value) (n : Nat), K.lookup a = some o ∧ o.cls = .type "tuple" ∧ o.data = .seq its n ∧ its.size ≤ sizeLine ∧ Vals xs its.toList
noncomputable def absV : Value → Option V
 | .none => some .non
 | .bool b => some (.bl b)
 | .int i _ => some (.int i)
 | .str x _ => some (.str x)
 | .bytes b _ => some (.byt b)
 | .float b _ => some (.flt b)
 | .ref a => some (.ref a)
 | .type n => some (.ty n)
 | _ => none
theorem RelV.abs {x : V} {u : Value} (r : RelV x u) : absV u = some x := by
 cases x with
 | non => cases r; rfl
 | bl _ => cases r; rfl
 | int _ => obtain ⟨t, rfl⟩ := r; rfl
 | str _ => obtain ⟨t, rfl⟩ := r; rfl
 | byt _ => obtain ⟨t, rfl⟩ := r; rfl
 | flt _ => obtain ⟨t, rfl⟩ := r; rfl
 | ref _ => cases r; rfl
 | ty _ => cases r; rfl
theorem RelV.inj {x y : V} {u : Value} (r : RelV x u) (q : RelV y u) : x = y := Option.some.inj (r.abs.symm.trans q.abs)
theorem Vals.inj : ∀ {xs ys : List V} {us : List Value}, Vals xs us → Vals ys us → xs = ys
 | _, _, _, .nil, .nil => rfl
 | _, _, _, .cons r t, .cons r' t' => by rw [r.inj r', Vals.inj t t']
section
variable {X : Cx} {pins : List (Addr × Obj)} {σ : St} {H : Hp} {s : Shared} {a : Addr} {xs ys : List V}
theorem SqL.of {K : PySem.W.Frag} (h : H a = some (.lst xs)) : SqL K H a xs := .inl (.inl h)
theorem SqT.of {K : PySem.W.Frag} (h : H a = some (.tup xs)) : SqT K H a xs := .inl (.inl h)
theorem Inv.list (I : Inv X pins σ H s) (h : SqL X.K H a xs) : ∃ its : List Value, Vals xs its ∧ PlainL s.heap a its.toArray ∧ xs.length ≤ sizeLine := by
 rcases h with h | ⟨o, its, n, hk, hc, hd, hs, hz, r⟩
 ·obtain ⟨z, its, n, r, e⟩ := h.ok I.hok
  exact ⟨its, r, ⟨_, n, e, rfl, rfl, rfl⟩, z⟩
 ·refine ⟨its.toList, r, ⟨o, n, I.kIn a o hk, hc, hd, by simpa using hs⟩, ?_⟩
  have e := r.length
  simp only [Array.length_toList] at e
  omega
theorem Inv.tuple (I : Inv X pins σ H s) (h : SqT X.K H a xs) : ∃ its : List Value, Vals xs its ∧ IsTup s.heap a its.toArray ∧ xs.length ≤ sizeLine := by
 rcases h with h | ⟨o, its, n, hk, hc, hs, hz, r⟩
 ·obtain ⟨z, its, r, p⟩ := h.ok I.hok
  exact ⟨its, r, p, z⟩
 ·refine ⟨its.toList, r, ⟨o, I.kIn a o hk, hc, n, by simpa using hs⟩, ?_⟩
  have e := r.length
  simp only [Array.length_toList] at e
  omega
theorem Inv.list_inj (I : Inv X pins σ H s) (h : SqL X.K H a xs) (h' : SqL X.K H a ys) : xs = ys := by
 obtain ⟨its, r, ⟨o, n, e, _, _, d⟩, _⟩ := I.list h
 obtain ⟨its', r', ⟨o', n', e', _, _, d'⟩, _⟩ := I.list h'
 rw [e] at e'; cases e'
 rw [d] at d'
 injection d' with d1 _
 have : its = its' := by simpa using congrArg Array.toList d1
 subst this
 exact r.inj r'
end
noncomputable abbrev Cx.wish (X : Cx) (E : Value → Shared → Prop) : Cx := { X with xe := E }
noncomputable abbrev Cx.nox (X : Cx) : Cx := X.wish fun _ _ => False
theorem Cx.Ok.wish {X : Cx} (ok : X.Ok) (E : Value → Shared → Prop) : (X.wish E).Ok :=
 ⟨ok.mod, ok.kind, ok.glob, ok.blt, ok.above, ok.inj, ok.has, ok.cab, ok.hd, ok.frames, ok.stk, ok.exf, ok.bs, ok.bsz, ok.noex, ok.exfs, ok.funs, ok.frf⟩
theorem Cx.Ok.unwish {X : Cx} {E : Value → Shared → Prop} (ok : (X.wish E).Ok) : X.Ok :=
 ⟨ok.mod, ok.kind, ok.glob, ok.blt, ok.above, ok.inj, ok.has, ok.cab, ok.hd, ok.frames, ok.stk, ok.exf, ok.bs, ok.bsz, ok.noex, ok.exfs, ok.funs, ok.frf⟩
section
variable {X : Cx} {pins : List (Addr × Obj)} {σ : St} {H : Hp} {s : Shared} {E : Value → Shared → Prop}
theorem Inv.wish (I : Inv X pins σ H s) (E : Value → Shared → Prop) : Inv (X.wish E) pins σ H s := ⟨I.ok.wish E, I.os, I.bare, I.base, I.loc, I.cell, I.free, I.freeC, I.pin, I.hok, I.len⟩
theorem Inv.unwish (I : Inv (X.wish E) pins σ H s) : Inv X pins σ H s := ⟨I.ok.unwish, I.os, I.bare, I.base, I.loc, I.cell, I.free, I.freeC, I.pin, I.hok, I.len⟩
theorem SP.unwish {D : Ends} {f : Flow} {s' : Shared} (h : SP (X.wish E) pins D f s') : SP X pins D f s' := by
 cases f with
 | next => obtain ⟨σ', H', I, q⟩ := h; exact ⟨σ', H', I.unwish, q⟩
 | brk => obtain ⟨σ', H', I, q⟩ := h; exact ⟨σ', H', I.unwish, q⟩
 | cont => obtain ⟨σ', H', I, q⟩ := h; exact ⟨σ', H', I.unwish, q⟩
 | ret u => obtain ⟨v, σ', H', I, r, q⟩ := h; exact ⟨v, σ', H', I.unwish, r, q⟩
theorem PE.nox {e : Expr} {t : TE} (h : PE X.nox e t) : PE X e t := fun pins s σ H Q I hw =>
 wpAny_mono (h pins s σ H Q (I.wish _) hw) (fun _ _ ⟨v, H', I', r, q⟩ => ⟨v, H', I'.unwish, r, q⟩) fun _ _ z => False.elim z
theorem PT.nox {e : Expr} {t : TT} (h : PT X.nox e t) : PT X e t := fun pins s σ H Q I hw =>
 wpAny_mono (h pins s σ H Q (I.wish _) hw) (fun _ _ ⟨H', I', q⟩ => ⟨H', I'.unwish, q⟩) fun _ _ z => False.elim z
theorem PSs.nox {st : List Stmt} {t : TS} (h : PSs X.nox st t) : PSs X st t := fun pins s σ H D I hw =>
 wpAny_mono (h pins s σ H D (I.wish _) hw) (fun _ _ q => q.unwish) fun _ _ z => False.elim z
end
section
variable {X : Cx} {st : Stmt} {rest : List Stmt} {t u : TS} {e : Expr} {te : TE} {pos : Pos}
noncomputable def tNext : TS := fun D σ H => D.nx σ H
noncomputable def tSeq (t u : TS) : TS := fun D σ H => t { D with nx := u D } σ H
theorem pss_nil : PSs X [] tNext := fun _ _ σ H _ I h => wpAny_execs_nil ⟨σ, H, I, h⟩
theorem pss_cons (h1 : PS X st t) (h2 : PSs X rest u) : PSs X (st :: rest) (tSeq t u) := by
 intro pins s σ H D I h
 refine wpAny_execs_cons (thn (h1 pins s σ H { D with nx := u D } I h) fun f s1 q => ?_)
 cases f with
 | next =>
  obtain ⟨σ', H', I', q⟩ := q
  exact h2 pins s1 σ' H' D I' q
 | ret v => exact q
 | brk => exact q
 | cont => exact q
theorem pss_one (h1 : PS X st t) : PSs X [st] t := by
 intro pins s σ H D I h
 refine wpAny_execs_cons (thn (h1 pins s σ H D I h) fun f s1 q => ?_)
 cases f with
 | next => exact wpAny_execs_nil q
 | ret v => exact q
 | brk => exact q
 | cont => exact q
noncomputable def tCont : TS := fun D σ H => D.ct σ H
theorem Inv.quiet {pins : List (Addr × Obj)} {σ : St} {H : Hp} {s : Shared} (I : Inv X pins σ H s) : interactive X.env = false := by simp [interactive, I.ok.kind]
noncomputable def tDrop (te : TE) : TS := fun D σ H => te σ H fun _ H1 => D.nx σ H1
theorem ps_expr (he : PE X e te) (hs : swapsWith e none pos.line X.env = pure false := by rfl) : PS X (.Expr e pos) (tDrop te) := by
 intro pins s σ H D I h
 exact wpAny_Expr_any (thn (he pins s σ H _ I h) fun v s1 ⟨x, H1, I1, r1, q1⟩ => ⟨σ, H1, I1, q1⟩) I.quiet hs
noncomputable def tRet (te : TE) : TS := fun D σ H => te σ H D.rt
theorem ps_ret (he : PE X e te) : PS X (.Return (some e) pos) (tRet te) := by
 intro pins s σ H D I h
 exact wpAny_Return_some (thn (he pins s σ H _ I h) fun v s1 ⟨x, H1, I1, r1, q1⟩ => ⟨x, σ, H1, I1, r1, q1⟩)
noncomputable def tRetN : TS := fun D _ H => D.rt .non H
noncomputable def tIfS (c : TT) (t u : TS) : TS := fun D σ H => c σ H fun b H1 => if b = true then t D σ H1 else u D σ H1
theorem ps_if {c : Expr} {a b : List Stmt} {tc : TT} (hc : PT X c tc) (ha : PSs X a t) (hb : PSs X b u) : PS X (.If c a b pos) (tIfS tc t u) := by
 intro pins s σ H D I h
 refine wpAny_If (thn (hc pins s σ H _ I h) fun d s1 ⟨H1, I1, q1⟩ => ?_)
 cases d with
 | true => exact ha pins s1 σ H1 D I1 q1
 | false => exact hb pins s1 σ H1 D I1 q1
end
noncomputable abbrev TG := V → St → Hp → (St → Hp → Prop) → Prop
noncomputable def PG (X : Cx) (target : Expr) (t : TG) : Prop :=
 ∀ (pins : List (Addr × Obj)) (s : Shared) (σ : St) (H : Hp) (v : V) (u : Value) (Q : St → Hp → Prop), Inv X pins σ H s → RelV v u → t v σ H Q →
  wpAny (model X.prog X.w) X.A (assign target X.env u) (fun _ s' => ∃ σ' H', Inv X pins σ' H' s' ∧ Q σ' H') X.xe s
noncomputable abbrev TSet := V → V → V → Hp → (Hp → Prop) → Prop
section
variable {X : Cx} {pos : Pos}
noncomputable def gName (i : Nat) : TG := fun v σ H Q => Q (σ.set i (some v)) H
theorem pg_name {i : Nat} {x : Str} (hN : X.N.Nodup) (hi : X.N[i]? = some x) (hx : Loc X.env.scope x) (hf : X.fn x = true ∨ X.env.scope.names.lookup x = some .local := by first | exact .inl rfl | exact .inr rfl | assumption) : PG X (.Name x pos) (gName i) := by
 intro pins s σ H v u Q I r h
 exact wpAny_assign_Name (store_ok I hN hi hx r (fun s' I' => ⟨_, H, I', h⟩) hf)
noncomputable def gSub (to ti : TE) (t : TSet) : TG := fun v σ H Q => to σ H fun o H1 => ti σ H1 fun i H2 => t o i v H2 fun H3 => Q σ H3
noncomputable def tAsg (te : TE) (g : TG) : TS := fun D σ H => te σ H fun x H1 => g x σ H1 D.nx
theorem ps_set {i : Nat} {x : Str} {e : Expr} {te : TE} {pos' : Pos} (hN : X.N.Nodup) (hi : X.N[i]? = some x) (hx : Loc X.env.scope x) (he : PE X e te) (hs : swapsWith e (some (.Name x pos')) pos.line X.env = pure false := by rfl) (hf : X.fn x = true ∨ X.env.scope.names.lookup x = some .local := by first | exact .inl rfl | exact .inr rfl | assumption) :
  PS X (.Assign [.Name x pos'] e pos) (tAsg te (gName i)) := by
 intro pins s σ H D I h
 refine wpAny_Assign_Name (thn (he pins s σ H _ I h) fun v s1 ⟨y, H1, I1, r1, q1⟩ => ?_) hs
 exact store_ok I1 hN hi hx r1 (fun s2 I2 => ⟨_, H1, I2, q1⟩) hf
noncomputable def tPar (i j : Nat) (ta : TA) : TS := fun D σ H => ta σ H fun vs H1 => ∃ v w, vs = [v, w] ∧ D.nx ((σ.set i (some v)).set j (some w)) H1
end
structure It where
 go : Nat → Hp → Prop
 yld : Nat → Hp → V → Hp → Prop
 stop : Nat → Hp → Prop
noncomputable def FpOk (X : Cx) (pins : List (Addr × Obj)) (H : Hp) (b : Addr) : Prop :=
 H b = none ∧ b ≠ X.env.locals ∧ b ∉ X.fs ∧ (b ∈ X.ex ∨ X.s₀.heap.objs.size ≤ b) ∧ (∀ x c, X.env.cells.lookup x = some c → c ≠ b) ∧ ∀ p ∈ X.pn ++ pins, p.1 ≠ b
theorem Inv.fpOk {X : Cx} {pins : List (Addr × Obj)} {σ : St} {H H' : Hp} {s : Shared} {b : Addr} (I : Inv X pins σ H s) (hb : s.heap.objs.size ≤ b) (hn : H' b = none) : FpOk X pins H' b := by
 refine ⟨hn, Nat.ne_of_gt (Nat.lt_of_lt_of_le I.lt hb), I.nofs hb, .inr (Nat.le_trans I.sz hb), fun x c e z => ?_, fun p hp z => ?_⟩
 ·obtain ⟨v, q⟩ := I.cell x c e
  exact absurd (Nat.lt_of_lt_of_le q.lt (by rw [z]; exact hb)) (Nat.lt_irrefl _)
 ·exact absurd (Nat.lt_of_lt_of_le (Heap.lt_size (I.pin p hp).1) (by rw [z]; exact hb)) (Nat.lt_irrefl _)
structure Turn (P : Program) (w : World) (K : PySem.W.Frag) (tg : Expr) (J : It) (fp : List Addr) (it : Addr) (tn : Nat → Heap → Prop) : Prop where
 mem : it ∈ fp
 obj : ∀ i h, tn i h → ∀ b ∈ fp, ∃ o, h.get? b = some o ∧ ∀ v, o.data ≠ .cell v
 keep : ∀ i h h', tn i h → (∀ b ∈ fp, ∀ o, h.get? b = some o → h'.get? b = some o) → tn i h'
 item : ∀ (X : Cx), X.prog = P → X.w = w → X.K = K → X.calm = true → ∀ (i : Nat) (pins : List (Addr × Obj)) (s : Shared) (σ : St) (H : Hp) (E : Value → Shared → Prop), Inv X pins σ H s → (∀ b ∈ fp, FpOk X pins H b) → tn i s.heap → J.go i H →
  wpAny (model P w) X.A (pyNext (.ref it)) (fun r s1 => ∃ u, r = some u ∧
   wpAny (model P w) X.A (letOwnedTupleGo tg (.ref it) u) (fun _ s2 => ∃ x H', Inv X pins σ H' s2 ∧ RelV x u ∧ J.yld i H x H' ∧ tn (i + 1) s2.heap ∧ ∀ b ∈ fp, H' b = none) E s1) E s
 done : ∀ (X : Cx), X.prog = P → X.w = w → X.K = K → X.calm = true → ∀ (i : Nat) (pins : List (Addr × Obj)) (s : Shared) (σ : St) (H : Hp) (E : Value → Shared → Prop), Inv X pins σ H s → (∀ b ∈ fp, FpOk X pins H b) → tn i s.heap → J.stop i H →
  wpAny (model P w) X.A (pyNext (.ref it)) (fun r s1 => r = none ∧ Inv X pins σ H s1) E s
 self : ∀ (A : Around) (i : Nat) (s : Shared) (Q : Value → Shared → Prop) (E : Value → Shared → Prop), tn i s.heap → Q (.ref it) s → wpAny (model P w) A (pyIter (.ref it)) Q E s
noncomputable abbrev TI := St → Hp → (It → Hp → Prop) → Prop
noncomputable def PIE (X : Cx) (pins : List (Addr × Obj)) (σ : St) (tg : Expr) (R : It → Hp → Prop) (itv : Value) (s2 : Shared) : Prop :=
 ∃ (it : Addr) (fp : List Addr) (tn : Nat → Heap → Prop) (J : It) (H' : Hp), itv = .ref it ∧ Inv X pins σ H' s2 ∧ Turn X.prog X.w X.K tg J fp it tn ∧ tn 0 s2.heap ∧ (∀ b ∈ fp, FpOk X pins H' b) ∧ R J H'
noncomputable def PI (X : Cx) (tg iter : Expr) (wi : TI) : Prop :=
 ∀ (pins : List (Addr × Obj)) (s : Shared) (σ : St) (H : Hp) (R : It → Hp → Prop), Inv X pins σ H s → wi σ H R →
  wpAny (model X.prog X.w) X.A (eval iter X.env) (fun v s1 => wpAny (model X.prog X.w) X.A (pyIter v) (PIE X pins σ tg R) X.xe s1) X.xe s
theorem go_of {M : Model} {A : Around} {E : Value → Shared → Prop} {s : Shared} {tg : Expr} {it : Addr} {u : Value} {o : Obj} {n : String} {vs : Array Value} {Q : Unit → Shared → Prop} (ho : s.heap.get? it = some o) (hc : o.cls = .type n) (hd : o.data = .fields vs)
  (hn : ["enumerate", "zip", "dict_itemiterator", "dict_reverseitemiterator", "odict_iterator", "itertools.zip_longest", "itertools.pairwise"].contains n = false) (hQ : Q () s) : wpAny M A (letOwnedTupleGo tg (.ref it) u) Q E s := by
 unfold letOwnedTupleGo
 cases tg <;> first
  | exact wpAny_pure hQ
  | (cases u <;> first
    | exact wpAny_pure hQ
    | (refine wpAny_bind (wpAny_load ho ?_); rw [hc, hd]; show wpAny M A (if (["enumerate", "zip", "dict_itemiterator", "dict_reverseitemiterator", "odict_iterator", "itertools.zip_longest", "itertools.pairwise"].contains n && vs[0]? == some (rawInt _)) = true then _ else _) Q E s; rw [if_neg (by intro h; rw [hn, Bool.false_and] at h; cases h)]; exact wpAny_pure hQ))
noncomputable def Itl (K : PySem.W.Frag) (a : Addr) : It :=
 ⟨fun i H => ∃ xs x, SqL K H a xs ∧ xs[i]? = some x, fun i H x H' => H' = H ∧ ∀ xs, SqL K H a xs → xs[i]? = some x, fun i H => ∃ xs, SqL K H a xs ∧ xs.length ≤ i⟩
noncomputable def Itr (lo : Int) (n : Nat) : It := ⟨fun i _ => i < n, fun i H x H' => H' = H ∧ x = .int (lo + i), fun i _ => n ≤ i⟩
theorem turn_list {P : Program} {w : World} {K : PySem.W.Frag} {tg : Expr} (a it : Addr) : Turn P w K tg (Itl K a) [it] it (fun i h => h.IsListIter it a i) where
 mem := by simp
 obj := fun i h st b hb => by
  have e : b = it := by simpa using hb
  subst e
  obtain ⟨o, e, c, d⟩ := st
  exact ⟨o, e, fun v z => by rw [d] at z; cases z⟩
 keep := fun i h h' st k => st.at fun o e => k it (by simp) o e
 item := by
  intro X hP hw hK hc i pins s σ H E I hf st hg
  subst hP hw hK
  obtain ⟨xs, x, hq, hx⟩ := hg
  obtain ⟨its, rv, p, hz⟩ := I.list hq
  obtain ⟨u, hu, ru⟩ := rv.get hx
  obtain ⟨f0, f1, f2, f3, f4, f5⟩ := hf it (by simp)
  refine wpAny_pyNext_list_item st p.isList (x := u) (by simpa using hu) fun h' st' sb => ?_
  have I1 : Inv X pins σ H { s with heap := h' } := I.turned (t' := s.toks) (fun b o hb e => (sb.2 b hb).trans e) f0 f1 f3 f4 f5
  obtain ⟨o, e, c, d⟩ := id st'
  exact ⟨u, rfl, go_of (s := { s with heap := h' }) e c d (by decide) ⟨x, H, I1, ru, ⟨rfl, fun ys hy => by rw [I.list_inj hy hq]; exact hx⟩, st', fun b hb => (hf b hb).1⟩⟩
 done := by
  intro X hP hw hK hc i pins s σ H E I hf st hg
  subst hP hw hK
  obtain ⟨xs, hq, hx⟩ := hg
  obtain ⟨its, rv, p, hz⟩ := I.list hq
  obtain ⟨f0, f1, f2, f3, f4, f5⟩ := hf it (by simp)
  have hl := rv.length
  exact wpAny_pyNext_list_end (I.ok.hd hc) st p.isList (by simp; omega) fun h' eb => ⟨rfl, I.turned (t' := s.toks) (fun b o hb e => eb b o hb e) f0 f1 f3 f4 f5⟩
 self := fun _ _ _ _ _ st h => wpAny_pyIter_listiter st h
theorem turn_range {P : Program} {w : World} {K : PySem.W.Frag} {tg : Expr} (it : Addr) (lo : Int) (n : Nat) : Turn P w K tg (Itr lo n) [it] it (fun i h => IsRangeIter h it (lo + (i : Nat) * 1) ((n : Int) - (i : Nat)) 1) where
 mem := by simp
 obj := fun i h st b hb => by
  have e : b = it := by simpa using hb
  subst e
  exact ⟨_, st, fun v z => by
   have z' : Data.fields _ = Data.cell v := z
   cases z'⟩
 keep := fun i h h' st k => k it (by simp) _ st
 item := by
  intro X hP hw hK hc i pins s σ H E I hf st hg
  subst hP hw hK
  obtain ⟨f0, f1, f2, f3, f4, f5⟩ := hf it (by simp)
  have W := Walks.range (prog := X.prog) (w := X.w) (I.ok.hd hc) it lo 1 n
  refine W.item i s _ _ hg st fun v h' tk hv st' kk => ?_
  obtain ⟨t, rfl⟩ := hv
  have I1 : Inv X pins σ H { s with heap := h', toks := tk } := I.turned (fun b o hb e => kk b o (by simpa using hb) e) f0 f1 f3 f4 f5
  refine ⟨_, rfl, go_of (s := { s with heap := h', toks := tk }) (n := "range_iterator") st' rfl rfl (by decide) ⟨.int (lo + i), H, I1, ⟨t, ?_⟩, ⟨rfl, rfl⟩, st', fun b hb => (hf b hb).1⟩⟩
  rw [Int.mul_one]
 done := by
  intro X hP hw hK hc i pins s σ H E I hf st hg
  subst hP hw hK
  obtain ⟨f0, f1, f2, f3, f4, f5⟩ := hf it (by simp)
  exact wpAny_pyNext_range_end (I.ok.hd hc) st (by have : n ≤ i := hg; omega) fun h' eb => ⟨rfl, I.turned (t' := s.toks) (fun b o hb e => eb b o hb e) f0 f1 f3 f4 f5⟩
 self := fun _ _ _ _ _ st h => wpAny_pyIter_rangeiter st h
end L2
namespace L2
open PySem PySem.Spec PyProof.Rows
section
variable {X : Cx} {tg : Expr}
noncomputable def iList (K : PySem.W.Frag) (tl : TE) : TI := fun σ H R => tl σ H fun x H1 => ∃ a, x = .ref a ∧ (∃ xs, SqL K H1 a xs) ∧ R (Itl K a) H1
theorem pi_list {l : Expr} {tl : TE} (hl : PE X l tl) : PI X tg l (iList X.K tl) := by
 intro pins s σ H R I h
 refine thn (hl pins s σ H _ I h) fun v s1 ⟨x, H1, I1, r1, q1⟩ => ?_
 obtain ⟨a, e, ⟨xs, hq⟩, q⟩ := q1
 subst e
 cases r1
 obtain ⟨its, rv, p, hz⟩ := I1.list hq
 refine wpAny_pyIter_list p.isList ?_
 refine ⟨s1.heap.objs.size, [s1.heap.objs.size], _, _, H1, rfl, I1.kept (t' := s1.toks) fun b o e => Heap.get?_push_of_some _ e, turn_list a _, ⟨_, Heap.get?_push_size _ rfl, rfl, rfl⟩, fun b hb => ?_, q⟩
 have e : b = s1.heap.objs.size := by simpa using hb
 subst e
 exact I1.fpOk (Nat.le_refl _) (I1.hok.fresh (Nat.le_refl _))
theorem range_it {pins : List (Addr × Obj)} {σ : St} {H : Hp} {s : Shared} {R : It → Hp → Prop} {E : Value → Shared → Prop} {lo hi : Int} {t u v : Tok} {tk : Nat} (I : Inv X pins σ H s) (h1 : -(2 ^ 62) ≤ lo) (h2 : lo < 2 ^ 62) (h3 : -(2 ^ 62) ≤ hi) (h4 : hi < 2 ^ 62)
  (q : R (Itr lo (hi - lo).toNat) H) : wpAny (model X.prog X.w) X.A (pyIter (.ref s.heap.objs.size)) (PIE X pins σ tg R) E { s with heap := s.heap.push { cls := .type "range", data := .fields #[.int lo t, .int hi u, .int 1 v] }, toks := tk } := by
 refine wpAny_pyIter_range (IsRange.new ..) (small_one h1 h2 h3 h4) ?_
 have I1 : Inv X pins σ H { s with heap := s.heap.push { cls := .type "range", data := .fields #[.int lo t, .int hi u, .int 1 v] }, toks := tk } := I.kept fun b o e => Heap.get?_push_of_some _ e
 refine ⟨(s.heap.push { cls := .type "range", data := .fields #[.int lo t, .int hi u, .int 1 v] }).objs.size, [(s.heap.push { cls := .type "range", data := .fields #[.int lo t, .int hi u, .int 1 v] }).objs.size], _, _, H, rfl,
  I1.kept (t' := tk) fun b o e => Heap.get?_push_of_some _ e, turn_range _ lo (hi - lo).toNat, ?_, fun b hb => ?_, q⟩
 ·have e1 : lo + ((0 : Nat) : Int) * 1 = lo := by simp
  have e2 : (((hi - lo).toNat : Nat) : Int) - ((0 : Nat) : Int) = Builtin.Range.rangeSize lo hi 1 := by rw [rangeSize_one]; split <;> omega
  show IsRangeIter _ _ (lo + ((0 : Nat) : Int) * 1) ((((hi - lo).toNat : Nat) : Int) - ((0 : Nat) : Int)) 1
  rw [e1, e2]
  exact Heap.get?_push_size _ rfl
 ·have e : b = (s.heap.push { cls := .type "range", data := .fields #[.int lo t, .int hi u, .int 1 v] }).objs.size := by simpa using hb
  subst e
  exact I1.fpOk (Nat.le_refl _) (I1.hok.fresh (Nat.le_refl _))
noncomputable def iRng1 (ta : TA) : TI := fun σ H R => ta σ H fun vs H1 => ∃ j : Int, vs = [.int j] ∧ -(2 ^ 62) ≤ j ∧ j < 2 ^ 62 ∧ R (Itr 0 j.toNat) H1
theorem pi_range1 {a : Expr} {ta : TA} {p pos : Pos} (hg : Gl X "range") (hm : X.mg "range" = none) (ha : PA X [a] ta) (hs : starEach [a] X.env = [(false, eval a X.env)] := by rfl) : PI X tg (.Call (.Name "range" p) [a] [] pos) (iRng1 ta) := by
 intro pins s σ H R I h
 refine Call_ (ld_blt I hg hm boot_range (PyProof.Rows.callWith_type1 (thn (ha pos pins s σ H _ I h) fun us s1 ⟨vs, H1, I1, r1, q1⟩ => ?_) hs rfl))
 obtain ⟨j, e, q1, q2, q⟩ := q1
 subst e
 cases r1 with
 | cons r rr =>
  cases rr
  obtain ⟨t, rfl⟩ := r
  exact call_range_1 (range_it I1 (by omega) (by omega) q1 q2 (by simpa using q))
noncomputable def tFor (wi : TI) (g : TG) (tb : TS) : TS := fun D σ H => wi σ H fun J H1 => ∃ W : Nat → Nat → St → Hp → Prop, (∃ m, W 0 m σ H1) ∧ ∀ i m σ H, W i m σ H →
 (J.stop i H ∧ D.nx σ H) ∨ (J.go i H ∧ ∃ N : St → Hp → Prop, (∀ σ' H', N σ' H' → ∃ m', m' < m ∧ W (i + 1) m' σ' H') ∧ ∀ x H', J.yld i H x H' → g x σ H' fun σ2 H2 => tb { D with nx := N, ct := N, bk := D.nx } σ2 H2)
noncomputable def pinsAt (fp : List Addr) (h : Heap) : List (Addr × Obj) := fp.filterMap fun b => (h.get? b).map fun o => (b, o)
theorem mem_pinsAt {fp : List Addr} {h : Heap} {b : Addr} {o : Obj} (hb : b ∈ fp) (e : h.get? b = some o) : (b, o) ∈ pinsAt fp h := List.mem_filterMap.mpr ⟨b, hb, by rw [e]; rfl⟩
theorem of_pinsAt {fp : List Addr} {h : Heap} {p : Addr × Obj} (hp : p ∈ pinsAt fp h) : p.1 ∈ fp ∧ h.get? p.1 = some p.2 := by
 obtain ⟨b, hb, e⟩ := List.mem_filterMap.mp hp
 cases q : h.get? b with
 | none => rw [q] at e; cases e
 | some o =>
  rw [q] at e
  have e' : (b, o) = p := Option.some.inj e
  subst e'
  exact ⟨hb, q⟩
theorem Inv.pinned {pins : List (Addr × Obj)} {σ : St} {H : Hp} {s : Shared} {fp : List Addr} (I : Inv X pins σ H s) (hf : ∀ b ∈ fp, FpOk X pins H b) (ho : ∀ b ∈ fp, ∃ o, s.heap.get? b = some o ∧ ∀ v, o.data ≠ .cell v) : Inv X (pins ++ pinsAt fp s.heap) σ H s :=
 I.pins_of fun p hp => (List.mem_append.mp hp).elim (fun z => I.pin p (List.mem_append_right _ z)) fun z => by
  obtain ⟨hb, e⟩ := of_pinsAt z
  obtain ⟨f0, f1, f2, _⟩ := hf p.1 hb
  obtain ⟨o, e', d⟩ := ho p.1 hb
  rw [e] at e'; cases e'
  exact ⟨e, f0, f1, f2, d⟩
theorem Inv.unpinned {pins pl : List (Addr × Obj)} {σ : St} {H : Hp} {s : Shared} (I : Inv X (pins ++ pl) σ H s) : Inv X pins σ H s := I.pins_of fun p hp => I.pin p (List.mem_append_right _ (List.mem_append_left _ hp))
theorem ps_for {iter : Expr} {body : List Stmt} {wi : TI} {g : TG} {tb : TS} {pos : Pos} (hp : PassesOwn (model X.prog X.w) X.A X.env X.xe) (hc : X.calm = true) (hi : PI X tg iter wi) (hg : PG X tg g) (hb : PSs X body tb)
  (hs : ∀ x, foldedSetIterable iter X.env x = pure x := by intro _; rfl) : PS X (.For tg iter body [] pos) (tFor wi g tb) := by
 intro pins s σ H D I h
 refine wpAny_For (thn (hi pins s σ H _ I h) fun v s1 h1 => thn h1 fun itv s2 h2 => ?_) hs
 obtain ⟨it, fp, tn, J, H2, e, I2, T, st2, f2, W, ⟨m0, w0⟩, turn⟩ := h2
 subst e
 -- what stays true of the iterator's objects through the loop
 have stat : ∀ {H' : Hp}, (∀ b ∈ fp, H' b = none) → ∀ b ∈ fp, FpOk X pins H' b := fun hn b hb => ⟨hn b hb, (f2 b hb).2⟩
 refine codeAny_forLoop_any (fun n s' => ∃ i σ' H', Inv X pins σ' H' s' ∧ tn i s'.heap ∧ (∀ b ∈ fp, H' b = none) ∧ W i n σ' H') ?_ m0 ⟨0, σ, H2, I2, st2, fun b hb => (f2 b hb).1, w0⟩
 rintro n s3 ⟨i, σ3, H3, I3, st3, fr3, w3⟩
 rcases turn i n σ3 H3 w3 with ⟨stop, qn⟩ | ⟨go, N, hN, step⟩
 ·refine wpAny_passesOwn hp (thn (T.done X rfl rfl rfl hc i pins s3 σ3 H3 X.xe I3 (stat fr3) st3 stop) fun r s4 ⟨hr, I4⟩ => ?_)
  subst hr
  exact wpAny_execs_nil ⟨σ3, H3, I4, qn⟩
 ·refine wpAny_passesOwn hp (thn (T.item X rfl rfl rfl hc i pins s3 σ3 H3 X.xe I3 (stat fr3) st3 go) fun r s4 ⟨u, hr, h4⟩ => ?_)
  subst hr
  refine wpAny_passesOwn hp (thn h4 fun _ s5 ⟨x, H5, I5, r5, y5, st5, fr5⟩ => ?_)
  have I5' := I5.pinned (stat fr5) (T.obj _ _ st5)
  refine wpAny_passesOwn hp (thn (hg _ s5 σ3 H5 x u _ I5' r5 (step x H5 y5)) fun _ s6 ⟨σ6, H6, I6, q6⟩ => ?_)
  refine wpAny_passesOwn hp (thn (hb _ s6 σ6 H6 _ I6 q6) fun f s7 q7 => ?_)
  have again : ∀ {σ7 : St} {H7 : Hp}, Inv X (pins ++ pinsAt fp s5.heap) σ7 H7 s7 → N σ7 H7 → ∃ m, m < n ∧ ∃ i σ' H', Inv X pins σ' H' s7 ∧ tn i s7.heap ∧ (∀ b ∈ fp, H' b = none) ∧ W i m σ' H' := fun {σ7 H7} I7 n7 => by
   obtain ⟨m', hm, w7⟩ := hN σ7 H7 n7
   refine ⟨m', hm, i + 1, σ7, H7, I7.unpinned, T.keep _ _ _ st5 fun b hb o e => (I7.pin (b, o) (List.mem_append_right _ (List.mem_append_right _ (mem_pinsAt hb e)))).1, fun b hb => ?_, w7⟩
   obtain ⟨o, e, d⟩ := T.obj _ _ st5 b hb
   exact (I7.pin (b, o) (List.mem_append_right _ (List.mem_append_right _ (mem_pinsAt hb e)))).2.1
  cases f with
  | next => obtain ⟨σ7, H7, I7, n7⟩ := q7; exact again I7 n7
  | cont => obtain ⟨σ7, H7, I7, n7⟩ := q7; exact again I7 n7
  | brk => obtain ⟨σ7, H7, I7, q7⟩ := q7; exact ⟨σ7, H7, I7.unpinned, q7⟩
  | ret v => obtain ⟨x7, σ7, H7, I7, r7, q7⟩ := q7; exact ⟨x7, σ7, H7, I7.unpinned, r7, q7⟩
end
theorem for_list {K : PySem.W.Frag} {a : Addr} {xs : List V} {g : TG} {tb : TS} {D : Ends} {σ : St} {H : Hp} (Pv : Nat → St → Hp → Prop) (h0 : Pv 0 σ H) (hl : ∀ i σ H, i ≤ xs.length → Pv i σ H → SqL K H a xs)
  (hs : ∀ i x σ H, xs[i]? = some x → Pv i σ H → g x σ H fun σ2 H2 => tb { D with nx := Pv (i + 1), ct := Pv (i + 1), bk := D.nx } σ2 H2) (hd : ∀ σ H, Pv xs.length σ H → D.nx σ H) :
  ∃ W : Nat → Nat → St → Hp → Prop, (∃ m, W 0 m σ H) ∧ ∀ i m σ H, W i m σ H →
   ((Itl K a).stop i H ∧ D.nx σ H) ∨ ((Itl K a).go i H ∧ ∃ N : St → Hp → Prop, (∀ σ' H', N σ' H' → ∃ m', m' < m ∧ W (i + 1) m' σ' H') ∧ ∀ x H', (Itl K a).yld i H x H' → g x σ H' fun σ2 H2 => tb { D with nx := N, ct := N, bk := D.nx } σ2 H2) := by
 refine ⟨fun i m σ H => m = xs.length - i ∧ i ≤ xs.length ∧ Pv i σ H, ⟨xs.length, by simp, Nat.zero_le _, h0⟩, ?_⟩
 rintro i m σ H ⟨rfl, hi, p⟩
 have q := hl i σ H hi p
 by_cases hlt : i < xs.length
 ·refine .inr ⟨⟨xs, xs[i], q, by simp [hlt]⟩, Pv (i + 1), fun σ' H' p' => ⟨xs.length - (i + 1), by omega, rfl, hlt, p'⟩, fun x H' y => ?_⟩
  obtain ⟨e, y⟩ := y
  subst e
  exact hs i x σ _ (y xs q) p
 ·have e : i = xs.length := by omega
  subst e
  exact .inl ⟨⟨xs, q, Nat.le_refl _⟩, hd σ H p⟩
theorem for_range {lo : Int} {n : Nat} {g : TG} {tb : TS} {D : Ends} {σ : St} {H : Hp} (Pv : Nat → St → Hp → Prop) (h0 : Pv 0 σ H)
  (hs : ∀ i σ H, i < n → Pv i σ H → g (.int (lo + i)) σ H fun σ2 H2 => tb { D with nx := Pv (i + 1), ct := Pv (i + 1), bk := D.nx } σ2 H2) (hd : ∀ σ H, Pv n σ H → D.nx σ H) :
  ∃ W : Nat → Nat → St → Hp → Prop, (∃ m, W 0 m σ H) ∧ ∀ i m σ H, W i m σ H →
   ((Itr lo n).stop i H ∧ D.nx σ H) ∨ ((Itr lo n).go i H ∧ ∃ N : St → Hp → Prop, (∀ σ' H', N σ' H' → ∃ m', m' < m ∧ W (i + 1) m' σ' H') ∧ ∀ x H', (Itr lo n).yld i H x H' → g x σ H' fun σ2 H2 => tb { D with nx := N, ct := N, bk := D.nx } σ2 H2) := by
 refine ⟨fun i m σ H => m = n - i ∧ i ≤ n ∧ Pv i σ H, ⟨n, by simp, Nat.zero_le _, h0⟩, ?_⟩
 rintro i m σ H ⟨rfl, hi, p⟩
 by_cases hlt : i < n
 ·refine .inr ⟨hlt, Pv (i + 1), fun σ' H' p' => ⟨n - (i + 1), by omega, rfl, hlt, p'⟩, fun x H' y => ?_⟩
  obtain ⟨e, y⟩ := y
  subst e y
  exact hs i σ _ hlt p
 ·have e : i = n := by omega
  subst e
  exact .inl ⟨Nat.le_refl _, hd σ H p⟩
end L2
namespace L2
open PySem PySem.Spec PyProof.Rows
noncomputable abbrev R2 := V → V → Hp → VK → Prop
noncomputable def OpR (X : Cx) (f : Value → Value → Sem Value) (r : R2) : Prop :=
 ∀ (pins : List (Addr × Obj)) (s : Shared) (σ : St) (H : Hp) (x y : V) (v u : Value) (Q : VK), Inv X pins σ H s → RelV x v → RelV y u → r x y H Q →
  wpAny (model X.prog X.w) X.A (f v u) (EP X pins σ Q) X.xe s
noncomputable def CallR (X : Cx) (f : Value) (r : List V → Hp → VK → Prop) : Prop :=
 ∀ (pins : List (Addr × Obj)) (s : Shared) (σ : St) (H : Hp) (xs : List V) (us : List Value) (Q : VK), Inv X pins σ H s → Vals xs us → r xs H Q →
  wpAny (model X.prog X.w) X.A (call f us) (EP X pins σ Q) X.xe s
noncomputable def tOp (r : R2) (ta tb : TE) : TE := fun σ H Q => ta σ H fun x H1 => tb σ H1 fun y H2 => r x y H2 Q
noncomputable def tUn (r : V → Hp → VK → Prop) (ta : TE) : TE := fun σ H Q => ta σ H fun x H1 => r x H1 Q
noncomputable def rI (C : Int → Int → Prop) (g : Int → Int → V) : R2 := fun x y H Q => ∃ i j, x = .int i ∧ y = .int j ∧ C i j ∧ Q (g i j) H
noncomputable def rI0 (g : Int → Int → V) : R2 := fun x y H Q => ∃ i j, x = .int i ∧ y = .int j ∧ Q (g i j) H
noncomputable def rU (g : Int → V) : V → Hp → VK → Prop := fun x H Q => ∃ i, x = .int i ∧ Q (g i) H
section
variable {X : Cx} {a b c : Expr} {ta tb tc : TE} {pos : Pos}
theorem binT (ha : PE X a ta) (hb : PE X b tb) {pins : List (Addr × Obj)} {s : Shared} {σ : St} {H : Hp} {R : V → V → Hp → Prop} (I : Inv X pins σ H s)
  (h : ta σ H fun x H1 => tb σ H1 fun y H2 => R x y H2) {Q : Value → Shared → Prop} {f : Value → Value → Sem Value}
  (hf : ∀ v u s2 x y H2, Inv X pins σ H2 s2 → RelV x v → RelV y u → R x y H2 → wpAny (model X.prog X.w) X.A (f v u) Q X.xe s2) :
  wpAny (model X.prog X.w) X.A (eval a X.env) (fun v s₁ => wpAny (model X.prog X.w) X.A (eval b X.env) (fun u s₂ => wpAny (model X.prog X.w) X.A (f v u) Q X.xe s₂) X.xe s₁) X.xe s := by
 refine thn (ha pins s σ H _ I h) fun v s1 ⟨x, H1, I1, r1, q1⟩ => ?_
 refine thn (hb pins s1 σ H1 _ I1 q1) fun u s2 ⟨y, H2, I2, r2, q2⟩ => ?_
 exact hf v u s2 x y H2 I2 r1 r2 q2
theorem pe_op {op : Operator} {r : R2} (ho : OpR X (binaryOp op) r) (ha : PE X a ta) (hb : PE X b tb) : PE X (.BinOp a op b pos) (tOp r ta tb) := by
 intro pins s σ H Q I h
 exact wpAny_BinOp (binT ha hb I h fun v u s2 x y H2 I2 rx ry q => ho pins s2 σ H2 x y v u Q I2 rx ry q)
theorem opI {f : Value → Value → Sem Value} {C : Int → Int → Prop} {g : Int → Int → Int}
  (rule : ∀ (i j : Int) (t u : Tok) (s : Shared) (Q : Value → Shared → Prop) (E : Value → Shared → Prop), C i j → Q (.int (g i j) s.toks) { s with toks := s.toks + 1 } → wpAny (model X.prog X.w) X.A (f (.int i t) (.int j u)) Q E s) :
  OpR X f (rI C fun i j => .int (g i j)) := by
 intro pins s σ H x y v u Q I rx ry h
 obtain ⟨i, j, rfl, rfl, hc, q⟩ := h
 obtain ⟨t, rfl⟩ := rx
 obtain ⟨t', rfl⟩ := ry
 exact rule i j t t' s _ _ hc ⟨.int (g i j), H, I.tok _, ⟨_, rfl⟩, q⟩
theorem opI0 {f : Value → Value → Sem Value} {g : Int → Int → Int}
  (rule : ∀ (i j : Int) (t u : Tok) (s : Shared) (Q : Value → Shared → Prop) (E : Value → Shared → Prop), Q (.int (g i j) s.toks) { s with toks := s.toks + 1 } → wpAny (model X.prog X.w) X.A (f (.int i t) (.int j u)) Q E s) :
  OpR X f (rI0 fun i j => .int (g i j)) := by
 intro pins s σ H x y v u Q I rx ry h
 obtain ⟨i, j, rfl, rfl, q⟩ := h
 obtain ⟨t, rfl⟩ := rx
 obtain ⟨t', rfl⟩ := ry
 exact rule i j t t' s _ _ ⟨.int (g i j), H, I.tok _, ⟨_, rfl⟩, q⟩
noncomputable def CMul (i j : Int) : Prop := (-(2 ^ 64) < i ∧ i < 2 ^ 64) ∨ (-(2 ^ 64) < j ∧ j < 2 ^ 64)
theorem CMul.ok {i j : Int} (h : CMul i j) : IntMulOk i j := by
 rcases h with ⟨h1, h2⟩ | ⟨h1, h2⟩
 ·exact .of_left (intBits_le_64 h1 h2)
 ·exact .of_right (intBits_le_64 h1 h2)
theorem op_sub : OpR X (binaryOp .Sub) (rI0 fun i j => .int (i - j)) := opI0 fun _ _ _ _ _ _ _ q => sub_int q
theorem op_mod : OpR X (binaryOp .Mod) (rI (fun _ j => 0 < j) fun i j => .int (i % j)) := opI fun i j _ _ _ _ _ hc q => by
 have h1 : (0 : Int) < j := hc
 exact mod_int' (by omega) (by rw [Int.fmod_eq_emod_of_nonneg i (by omega)]; exact q)
end
noncomputable def scal : V → V → Bool
 | .non, .non => true | .non, .int _ => true | .int _, .non => true | .non, .bl _ => true | .bl _, .non => true | .non, .str _ => true | .str _, .non => true
 | .int _, .int _ => true | .bl _, .bl _ => true | .str _, .str _ => true | .byt _, .byt _ => true
 | .int _, .str _ => true | .str _, .int _ => true | .bl _, .str _ => true | .str _, .bl _ => true
 | _, _ => false
noncomputable def rEq : R2 := fun x y H Q => scal x y = true ∧ Q (.bl (decide (x = y))) H
noncomputable def rNe : R2 := fun x y H Q => scal x y = true ∧ Q (.bl (!decide (x = y))) H
theorem dec_int {i j : Int} : decide (V.int i = V.int j) = (i == j) := by
 rw [Bool.eq_iff_iff]
 simp
theorem dec_bl {i j : Bool} : decide (V.bl i = V.bl j) = (i == j) := by
 rw [Bool.eq_iff_iff]
 simp
theorem dec_str {i j : Str} : decide (V.str i = V.str j) = (i == j) := by
 rw [Bool.eq_iff_iff]
 simp
theorem dec_byt {i j : Array UInt8} : decide (V.byt i = V.byt j) = (i.toList == j.toList) := by
 rw [Bool.eq_iff_iff]
 cases i
 cases j
 simp
section
variable {X : Cx} {a b c : Expr} {ta tb tc : TE} {pos : Pos}
theorem fin_bl {pins : List (Addr × Obj)} {σ : St} {H : Hp} {s : Shared} {Q : VK} {k k' : Bool} (I : Inv X pins σ H s) (q : Q (.bl k) H) (e : k = k') : EP X pins σ Q (.bool k') s := by
 subst e
 exact ⟨.bl k, H, I, rfl, q⟩
theorem op_eq : OpR X (compareOp .Eq) rEq := by
 intro pins s σ H x y v u Q I rx ry h
 obtain ⟨hs, q⟩ := h
 cases x with
 | non =>
  cases rx
  cases y with
  | non => cases ry; exact PySem.EqNone.eq_none_none (fin_bl I q (by simp))
  | bl j => cases ry; exact PySem.EqNone.eq_none_bool (fin_bl I q (by simp))
  | int j => obtain ⟨t', rfl⟩ := ry; exact PySem.EqNone.eq_none_int (fin_bl I q (by simp))
  | str j => obtain ⟨t', rfl⟩ := ry; exact PySem.EqNone.eq_none_str (fin_bl I q (by simp))
  | _ => exact absurd (show false = true from hs) Bool.false_ne_true
 | bl i =>
  cases rx
  cases y with
  | non => cases ry; exact PySem.EqNone.eq_bool_none (fin_bl I q (by simp))
  | bl j => cases ry; exact eq_bool (fin_bl I q dec_bl)
  | str j => obtain ⟨t', rfl⟩ := ry; exact PySem.EqMixed.eq_bool_str (fin_bl I q (by simp))
  | _ => exact absurd (show false = true from hs) Bool.false_ne_true
 | int i =>
  obtain ⟨t, rfl⟩ := rx
  cases y with
  | non => cases ry; exact PySem.EqNone.eq_int_none (fin_bl I q (by simp))
  | int j => obtain ⟨t', rfl⟩ := ry; exact eq_int (fin_bl I q dec_int)
  | str j => obtain ⟨t', rfl⟩ := ry; exact PySem.EqMixed.eq_int_str (fin_bl I q (by simp))
  | _ => exact absurd (show false = true from hs) Bool.false_ne_true
 | str i =>
  obtain ⟨t, rfl⟩ := rx
  cases y with
  | non => cases ry; exact PySem.EqNone.eq_str_none (fin_bl I q (by simp))
  | bl j => cases ry; exact PySem.EqMixed.eq_str_bool (fin_bl I q (by simp))
  | int j => obtain ⟨t', rfl⟩ := ry; exact PySem.EqMixed.eq_str_int (fin_bl I q (by simp))
  | str j => obtain ⟨t', rfl⟩ := ry; exact eq_str (fin_bl I q dec_str)
  | _ => exact absurd (show false = true from hs) Bool.false_ne_true
 | byt i =>
  obtain ⟨t, rfl⟩ := rx
  cases y with
  | byt j => obtain ⟨t', rfl⟩ := ry; exact PySem.W.eq_bytes (fin_bl I q dec_byt)
  | _ => exact absurd (show false = true from hs) Bool.false_ne_true
 | _ => cases y <;> exact absurd (show false = true from hs) Bool.false_ne_true
theorem op_ne : OpR X (compareOp .NotEq) rNe := by
 intro pins s σ H x y v u Q I rx ry h
 obtain ⟨hs, q⟩ := h
 cases x with
 | non =>
  cases rx
  cases y with
  | non => cases ry; exact PySem.EqNone.ne_none_none (fin_bl I q (by simp))
  | bl j => cases ry; exact PySem.EqNone.ne_none_bool (fin_bl I q (by simp))
  | int j => obtain ⟨t', rfl⟩ := ry; exact PySem.EqNone.ne_none_int (fin_bl I q (by simp))
  | str j => obtain ⟨t', rfl⟩ := ry; exact PySem.EqNone.ne_none_str (fin_bl I q (by simp))
  | _ => exact absurd (show false = true from hs) Bool.false_ne_true
 | bl i =>
  cases rx
  cases y with
  | non => cases ry; exact PySem.EqNone.ne_bool_none (fin_bl I q (by simp))
  | bl j => cases ry; exact ne_bool (fin_bl I q (congrArg not dec_bl))
  | str j => obtain ⟨t', rfl⟩ := ry; exact PySem.EqMixed.ne_bool_str (fin_bl I q (by simp))
  | _ => exact absurd (show false = true from hs) Bool.false_ne_true
 | int i =>
  obtain ⟨t, rfl⟩ := rx
  cases y with
  | non => cases ry; exact PySem.EqNone.ne_int_none (fin_bl I q (by simp))
  | int j => obtain ⟨t', rfl⟩ := ry; exact ne_int (fin_bl I q (congrArg not dec_int))
  | str j => obtain ⟨t', rfl⟩ := ry; exact PySem.EqMixed.ne_int_str (fin_bl I q (by simp))
  | _ => exact absurd (show false = true from hs) Bool.false_ne_true
 | str i =>
  obtain ⟨t, rfl⟩ := rx
  cases y with
  | non => cases ry; exact PySem.EqNone.ne_str_none (fin_bl I q (by simp))
  | bl j => cases ry; exact PySem.EqMixed.ne_str_bool (fin_bl I q (by simp))
  | int j => obtain ⟨t', rfl⟩ := ry; exact PySem.EqMixed.ne_str_int (fin_bl I q (by simp))
  | str j => obtain ⟨t', rfl⟩ := ry; exact ne_str (fin_bl I q (congrArg not dec_str))
  | _ => exact absurd (show false = true from hs) Bool.false_ne_true
 | byt i =>
  obtain ⟨t, rfl⟩ := rx
  cases y with
  | byt j => obtain ⟨t', rfl⟩ := ry; exact PySem.W.ne_bytes (fin_bl I q (congrArg not dec_byt))
  | _ => exact absurd (show false = true from hs) Bool.false_ne_true
 | _ => cases y <;> exact absurd (show false = true from hs) Bool.false_ne_true
theorem nomark (b : Expr) {op : CmpOp} (h : op ≠ .In := by decide) (h2 : op ≠ .NotIn := by decide) : behindInMarks op b = false := by
 have e1 : (op == CmpOp.In) = false := by cases op <;> first | rfl | exact absurd rfl h
 have e2 : (op == CmpOp.NotIn) = false := by cases op <;> first | rfl | exact absurd rfl h2
 cases b <;> simp [behindInMarks, e1, e2]
theorem pe_cmpR {op : CmpOp} {r : R2} (ho : OpR X (compareOp op) r) (ha : PE X a ta) (hb : PE X b tb) (hm : behindInMarks op b = false) : PE X (.Compare a [op] [b] pos) (tOp r ta tb) := by
 intro pins s σ H Q I h
 exact wpAny_Compare1 (binT ha hb I h fun v u s2 x y H2 I2 rx ry q => ho pins s2 σ H2 x y v u Q I2 rx ry q) hm
noncomputable def tTest (t : TE) : TT := fun σ H Q => t σ H fun x H' => ∃ k, x = .bl k ∧ Q k H'
theorem pt_cmpR {op : CmpOp} {r : R2} (ho : OpR X (compareOp op) r) (ha : PE X a ta) (hb : PE X b tb) (hm : behindInMarks op b = false) : PT X (.Compare a [op] [b] pos) (tTest (tOp r ta tb)) := by
 intro pins s σ H Q I h
 refine wpAny_isTrue_Compare1 (thn (ha pins s σ H _ I h) fun v s1 ⟨x, H1, I1, r1, q1⟩ => thn (hb pins s1 σ H1 _ I1 q1) fun u s2 ⟨y, H2, I2, r2, q2⟩ =>
  thn (ho pins s2 σ H2 x y v u _ I2 r1 r2 q2) fun c s3 ⟨z, H3, I3, r3, k, e, q3⟩ => ?_) hm
 subst e
 cases r3
 exact wpAny_truthy_bool ⟨H3, I3, q3⟩
end
end L2
namespace L2
open PySem PySem.Spec PyProof.Rows
theorem RelO.none_of {o : Option Value} (r : RelO none o) : o = none := by
 cases o with
 | none => rfl
 | some u => exact (show False from r).elim
structure Cls (K : PySem.W.Frag) (C : Addr) : Prop where
 pg : PySem.W.plainGet K C Str.empty = true
 hd : PySem.W.hasDictIn K C = true
 po : PySem.W.plainOver K C = true
 sa : PySem.W.findIn K (.ref C) "__setattr__" = some (some (.builtin "object.__setattr__"))
theorem Cls.get {K : PySem.W.Frag} {C : Addr} (c : Cls K C) (f : Str) : PySem.W.plainGet K C f = true := c.pg
section
variable {X : Cx} {pins : List (Addr × Obj)} {σ : St} {H : Hp} {s : Shared} {a C dx : Addr} {fs : List (Str × V)} {f : Str} {v : V} {A : Around} {E : Value → Shared → Prop}
theorem attr_of {prog : Program} {w : World} {env : Env} {e : Expr} {f : Str} {pos : Pos} {s : Shared} {Q : Value → Shared → Prop} (hb : attributeBase e f env (eval e env) = eval e env)
  (h : wpAny (model prog w) A (eval e env) (fun o s₁ => wpAny (model prog w) A (getAttr o f true) Q E s₁) E s) : wpAny (model prog w) A (eval (.Attribute e f pos) env) Q E s :=
 Attribute_any_ h (by rw [arm_eval_Attribute, hb])
end
end L2
namespace L2
open PySem PySem.Spec PyProof.Rows
structure Room (k : Nat) (A : Around) : Prop where
 hd : A.handled = none
 dp : A.depth + 3 * k + 5 < recursionLimit
 un : A.units + 16 * k + 200 < cLine
theorem Room.mono {j k : Nat} {A : Around} (r : Room k A) (h : j ≤ k) : Room j A := ⟨r.hd, by have := r.dp; omega, by have := r.un; omega⟩
theorem Room.deeper {k : Nat} {A : Around} (r : Room (k + 1) A) (env : Env) : Room k (A.deeper env) :=
 ⟨r.hd, by have := r.dp; show A.depth + 1 + 3 * k + 5 < _; omega, by have := r.un; show A.units + 3 + 16 * k + 200 < _; omega⟩
theorem Room.in1 {k : Nat} {A : Around} (r : Room (k + 1) A) : Room k A.in1 :=
 ⟨r.hd, by have := r.dp; show A.depth + 3 * k + 5 < _; omega, by have := r.un; show A.units + 1 + 16 * k + 200 < _; omega⟩
theorem make_depth {A : Around} {C : Addr} {us : List Value} {kw : List (Str × Value)} : (A.under (.builtin "type.__call__" ⟨.ref C :: us, kw⟩)).depth = A.depth + 1 := by
 first | rfl | simp [Around.under, Code.weight, Code.isCreation, Code.isGuard, Code.isCaller, Code.frames, Code.isFrame, guardIds]
theorem Room.depth {k : Nat} {A : Around} (r : Room k A) : A.depth < recursionLimit := by have := r.dp; omega
theorem Room.units {k : Nat} {A : Around} (r : Room k A) : A.units + 64 < cLine := by have := r.un; omega
noncomputable def tNil : TA := fun _ H Q => Q [] H
noncomputable def tCons (ta : TE) (tr : TA) : TA := fun σ H Q => ta σ H fun x H1 => tr σ H1 fun xs H2 => Q (x :: xs) H2
section
variable {X : Cx} {e : Expr} {es : List Expr} {te : TE} {t : TA} {pos : Pos}
theorem pa_nil : PA X [] tNil := fun _ _ _ _ H Q I h => Calls.spliced_nil ⟨[], H, I, .nil, h⟩
theorem pa_cons (ha : PE X e te) (hr : PA X es t) (hs : starEach (e :: es) X.env = (false, eval e X.env) :: starEach es X.env := by rfl) : PA X (e :: es) (tCons te t) := by
 intro pos pins s σ H Q I h
 rw [hs]
 show wpAny _ _ (spliced ((false, eval e X.env) :: backTo pos (starEach es X.env))) _ _ s
 refine Calls.spliced_cons (thn (ha pins s σ H _ I h) fun u s1 ⟨x, H1, I1, r1, q1⟩ => ?_)
 exact thn (hr pos pins s1 σ H1 _ I1 q1) fun us s2 ⟨xs, H2, I2, r2, q2⟩ => ⟨x :: xs, H2, I2, .cons r1 r2, q2⟩
noncomputable def tTup (t : TA) : TE := fun σ H Q => t σ H fun xs H1 => xs.length ≤ sizeLine ∧ ∀ p, H1 p = none → Q (.ref p) (upd H1 p (.tup xs))
noncomputable def tLst (t : TA) : TE := fun σ H Q => t σ H fun xs H1 => xs.length ≤ sizeLine ∧ ∀ p, H1 p = none → Q (.ref p) (upd H1 p (.lst xs))
theorem pe_lst (h : PA X es t) : PE X (.List es pos) (tLst t) := by
 intro pins s σ H Q I hq
 refine wpAny_List_spliced (thn (h pos pins s σ H _ I hq) fun us s1 ⟨xs, H1, I1, r, z, q⟩ => ⟨by rw [← r.length]; exact z, ?_⟩)
 have hf : H1 s1.heap.objs.size = none := I1.hok.fresh (Nat.le_refl _)
 refine ⟨.ref s1.heap.objs.size, upd H1 s1.heap.objs.size (.lst xs), I1.laid (t' := s1.toks) (fun b u e => Heap.get?_push_of_some _ e) (Nat.le_refl _) ?_, rfl, q _ hf⟩
 exact ⟨z, us, 0, r, Heap.get?_push_size _ rfl⟩
end
noncomputable abbrev Sp := List V → Hp → VK → XK → Prop
noncomputable abbrev CXT := List Env → Hp → Shared → XK → Value → Shared → Prop
structure Env0 (P : Program) (w : World) (K : PySem.W.Frag) (mg : Str → Option Value) (base : Heap) (A : Around) (outer : List Env) (s : Shared) (H : Hp) : Prop where
 frames : A.frames = some outer
 mod : Mod K mg base
 bs : ∀ b o, base.get? b = some o → s.heap.get? b = some o ∧ H b = none
 bsz : base.objs.size ≤ s.heap.objs.size
 funs : s.heap.FunFrames base outer
 frf : ∀ b ∈ frs outer, H b = none
 hok : HOk P w H s.heap
 bare : AllBare s.gens
noncomputable def CE (outer : List Env) (P : Program) (w : World) (H : Hp) (s : Shared) (Q : VK) (u : Value) (s' : Shared) : Prop :=
 ∃ v H', s'.os = s.os ∧ AllBare s'.gens ∧ Un (frs outer) [] H H' s.heap s'.heap ∧ HOk P w H' s'.heap ∧ RelV v u ∧ Q v H'
noncomputable def CR (CX : CXT) (outer : List Env) (P : Program) (w : World) (H : Hp) (s : Shared) (Q : VK) (E : XK) (r : Result) (s' : Shared) : Prop :=
 match r with
 | .ok (.ret u) => CE outer P w H s Q u s'
 | .ok _ => False
 | .error e => CX outer H s E e s'
structure FnOk (P : Program) (w : World) (K : PySem.W.Frag) (mg : Str → Option Value) (base : Heap) (CX : CXT) (k : Nat) (f : Addr) (fd : FuncData) (ps : List Str) (sp : Sp) : Prop where
 len : ∀ vs H Q E, sp vs H Q E → vs.length = ps.length
 run : ∀ (A : Around) (outer : List Env) (s : Shared) (H : Hp) (args : Args) (us : List Value) (vs : List V) (Q : VK) (E : XK), Room k A → Env0 P w K mg base A outer s H → BindsTo s fd args (ps.zip us) → Vals vs us → sp vs H Q E →
  codeAny (model P w) A (.call (.ref f) args) (CR CX outer P w H s Q E) s
theorem FnOk.mono {P : Program} {w : World} {K : PySem.W.Frag} {mg : Str → Option Value} {base : Heap} {CX : CXT} {j k : Nat} {f : Addr} {fd : FuncData} {ps : List Str} {sp : Sp} (F : FnOk P w K mg base CX j f fd ps sp) (h : j ≤ k) :
  FnOk P w K mg base CX k f fd ps sp := ⟨F.len, fun A outer s H args us vs Q E hr => F.run A outer s H args us vs Q E (hr.mono h)⟩
theorem Env0.in1 {P : Program} {w : World} {K : PySem.W.Frag} {mg : Str → Option Value} {base : Heap} {A : Around} {outer : List Env} {s : Shared} {H : Hp} (e : Env0 P w K mg base A outer s H) :
  Env0 P w K mg base A.in1 outer s H := ⟨e.frames, e.mod, e.bs, e.bsz, e.funs, e.frf, e.hok, e.bare⟩
section
variable {X : Cx} {pins : List (Addr × Obj)} {σ : St} {H : Hp} {s s' : Shared}
theorem Inv.env0 (I : Inv X pins σ H s) : Env0 X.prog X.w X.K X.mg X.base X.A X.stack s H :=
 ⟨I.ok.frames, I.ok.mod, I.bs, Nat.le_trans I.ok.bsz I.sz, I.stack, I.stkFree, I.hok, I.bare⟩
theorem Inv.after {Q : VK} {u : Value} (I : Inv X pins σ H s) (h : CE X.stack X.prog X.w H s Q u s') : EP X pins σ Q u s' := by
 obtain ⟨v, H', os, bare, un, hok, r, q⟩ := h
 obtain ⟨hh, g, d, t, os'⟩ := s'
 obtain rfl : os' = s.os := os
 exact ⟨v, H', I.call (h' := hh) (g' := g) (d' := d) (t' := t) (ch := []) un hok bare (fun b z => absurd z (by simp)), r, q⟩
end
noncomputable def tCall (sp : Sp) (dvs : List V) (E : XK) (t : TA) : TE := fun σ H Q => t σ H fun vs H1 => sp (vs ++ dvs) H1 Q E
noncomputable def Binds (K : PySem.W.Frag) (fd : FuncData) (ps : List Str) (ds : List Value) : Prop :=
 ∀ (s : Shared) (us : List Value), K.In s.heap → (us ++ ds).length = ps.length → BindsTo s fd ⟨us, []⟩ (ps.zip (us ++ ds))
theorem Binds.all {K : PySem.W.Frag} {fd : FuncData} {ps : List Str} (h : ∀ us : List Value, us.length = ps.length → bindArgs fd ⟨us, []⟩ = pure (ps.zip us)) : Binds K fd ps [] := fun s us _ hl => by
 rw [List.append_nil] at hl ⊢
 exact .of_eq (h us hl)
noncomputable def Passes (CX : CXT) (X : Cx) (E : XK) : Prop := ∀ (pins : List (Addr × Obj)) (σ : St) (H : Hp) (s : Shared) (e : Value) (s' : Shared), Inv X pins σ H s → CX X.stack H s E e s' → X.xe e s'
section
variable {X : Cx} {CX : CXT} {k : Nat} {f C : Addr} {fd : FuncData} {ps : List Str} {sp : Sp} {dvs : List V} {ds : List Value} {E : XK} {x m : Str} {p pos apos : Pos} {e o : Expr} {es : List Expr} {ta : TE} {t : TA}
theorem run_fn {pins : List (Addr × Obj)} {σ : St} {H : Hp} {s : Shared} {Q : VK} {us : List Value} {vs : List V} (F : FnOk X.prog X.w X.K X.mg X.base CX k f fd ps sp) (hr : Room k X.A) (hb : Binds X.K fd ps ds) (hd : Vals dvs ds) (hx : Passes CX X E)
  (I : Inv X pins σ H s) (r : Vals vs us) (h : sp (vs ++ dvs) H Q E) : wpAny (model X.prog X.w) X.A (call (.ref f) us) (EP X pins σ Q) X.xe s := by
 have r2 : Vals (vs ++ dvs) (us ++ ds) := r.append hd
 have hl : (us ++ ds).length = ps.length := by rw [← r2.length]; exact F.len _ _ _ _ h
 refine wpAny_call (codeAny_mono (F.run X.A X.stack s H ⟨us, []⟩ (us ++ ds) (vs ++ dvs) Q E hr I.env0 (hb s us I.kIn hl) r2 h) fun r s' hq => ?_)
 cases r with
 | error e => exact hx pins σ H s e s' I hq
 | ok fl =>
  cases fl with
  | ret u => exact I.after hq
  | next => exact False.elim hq
  | brk => exact False.elim hq
  | cont => exact False.elim hq
theorem pe_call (F : FnOk X.prog X.w X.K X.mg X.base CX k f fd ps sp) (hr : Room k X.A) (hg : Gl X x) (hm : X.mg x = some (.ref f)) (hk : PySem.W.keepIn X.K (.ref f) = true) (hb : Binds X.K fd ps ds) (hd : Vals dvs ds) (hx : Passes CX X E)
  (ha : PA X (e :: es) t) (hdb : (x == ("__debug__" : Str)) = false := by decide) (he : starEach (e :: es) X.env = (false, eval e X.env) :: starEach es X.env := by rfl) (hpl : (backTo pos (starEach es X.env)).any (·.1) = false := by rfl) :
  PE X (.Call (.Name x p) (e :: es) [] pos) (tCall sp dvs E t) := by
 intro pins s σ H Q I h
 refine wpAny_Call_Name_kw (ld_glob I hg hm ?_ hdb)
 refine PySem.W.callWith_K (h₀ := X.base) I.ok.mod.kin hk (thn (ha pos pins s σ H _ I h) fun us s1 ⟨vs, H1, I1, r, q⟩ => ⟨I1.kIn, ?_⟩) he hpl
 exact run_fn F hr hb hd hx I1 r q
end
structure FnScope (N P : List Str) (sc : Scope) : Prop where
 kind : sc.kind = .function
 co : sc.isCoroutine = false
 gen : sc.isGenerator = false
 nd : N.Nodup
 pre : N.take P.length = P
 par : ∀ x ∈ P, sc.names.lookup x = some .local ∨ sc.names.lookup x = some .cell
 nofree : ∀ y ∈ sc.names, y.2 ≠ .free
theorem bindL_out {kindOf : Str → Option NameKind} {x : Str} : ∀ {binds : List (Str × Value)} {m : Str → Option Value}, (∀ v, (x, v) ∉ binds) → bindL kindOf binds m x = m x
 | [], _, _ => rfl
 | (n, v) :: r, m, h => by
  unfold bindL
  rw [bindL_out fun w hw => h w (List.mem_cons_of_mem _ hw)]
  split
  ·have : x ≠ n := by rintro rfl; exact h v List.mem_cons_self
   simp [this]
  ·rfl
theorem bindC_out {kindOf : Str → Option NameKind} {x : Str} : ∀ {binds : List (Str × Value)} {m : Str → Option Value}, (∀ v, (x, v) ∉ binds) → bindC kindOf binds m x = m x
 | [], _, _ => rfl
 | (n, v) :: r, m, h => by
  unfold bindC
  rw [bindC_out fun w hw => h w (List.mem_cons_of_mem _ hw)]
  split
  ·rfl
  ·have : x ≠ n := by rintro rfl; exact h v List.mem_cons_self
   simp [this]
theorem bindL_get {kindOf : Str → Option NameKind} {x : Str} {v : Value} : ∀ {P : List Str} {vs : List Value} {i : Nat} {m : Str → Option Value}, P.Nodup → P[i]? = some x → vs[i]? = some v → kindOf x = some .local →
  bindL kindOf (P.zip vs) m x = some v
 | [], _, _, _, _, h, _, _ => by simp at h
 | _ :: _, [], _, _, _, _, h, _ => by simp at h
 | p :: P, w :: vs, 0, m, nd, h1, h2, hk => by
  simp at h1 h2; subst h1; subst h2
  show bindL kindOf ((p, w) :: P.zip vs) m p = _
  unfold bindL
  rw [bindL_out fun v hv => (List.nodup_cons.mp nd).1 (List.of_mem_zip hv).1, if_pos hk]
  simp
 | p :: P, w :: vs, i + 1, m, nd, h1, h2, hk => by
  show bindL kindOf ((p, w) :: P.zip vs) m x = _
  unfold bindL
  exact bindL_get (i := i) (List.nodup_cons.mp nd).2 (by simpa using h1) (by simpa using h2) hk
theorem bindC_get {kindOf : Str → Option NameKind} {x : Str} {v : Value} : ∀ {P : List Str} {vs : List Value} {i : Nat} {m : Str → Option Value}, P.Nodup → P[i]? = some x → vs[i]? = some v → kindOf x ≠ some .local →
  bindC kindOf (P.zip vs) m x = some v
 | [], _, _, _, _, h, _, _ => by simp at h
 | _ :: _, [], _, _, _, _, h, _ => by simp at h
 | p :: P, w :: vs, 0, m, nd, h1, h2, hk => by
  simp at h1 h2; subst h1; subst h2
  show bindC kindOf ((p, w) :: P.zip vs) m p = _
  unfold bindC
  rw [bindC_out fun v hv => (List.nodup_cons.mp nd).1 (List.of_mem_zip hv).1, if_neg hk]
  simp
 | p :: P, w :: vs, i + 1, m, nd, h1, h2, hk => by
  show bindC kindOf ((p, w) :: P.zip vs) m x = _
  unfold bindC
  exact bindC_get (i := i) (List.nodup_cons.mp nd).2 (by simpa using h1) (by simpa using h2) hk
noncomputable def start (N : List Str) (vs : List V) : St := vs.map some ++ List.replicate (N.length - vs.length) none
noncomputable def cxOf (CX : CXT) (P : Program) (w : World) (K : PySem.W.Frag) (mg : Str → Option Value) (base : Heap) (N : List Str) (qual : Str) (scope : Scope) (f : Addr) (cd : Value) (A : Around) (outer : List Env) (s : Shared) (H : Hp) (E : XK) : Cx where
 prog := P
 w := w
 K := K
 mg := mg
 base := base
 A := A.deeper (envOfC qual scope s.heap.objs.size f cd)
 N := N
 s₀ := s
 H₀ := H
 env := envOfC qual scope s.heap.objs.size f cd
 outer := outer
 stack := envOfC qual scope s.heap.objs.size f cd :: outer
 ex := []
 calm := true
 fn := fun _ => true
 pn := []
 xe := fun e s' => wpAny (model P w) (A.deeper (envOfC qual scope s.heap.objs.size f cd)) (leaving (envOfC qual scope s.heap.objs.size f cd) e) (fun _ s'' => CX outer H s E e s'') (fun e' s'' => CX outer H s E e' s'') s'
theorem cell_has {sc : Scope} {n : Nat} {x : Str} (h : sc.names.lookup x = some .cell) : ∃ c, (cellsFrom n sc.names []).lookup x = some c := by
 have q := PySem.W.cellsFrom_some sc.names n [] (.inl h)
 exact Option.isSome_iff_exists.mp q
theorem inv_start {CX : CXT} {P : Program} {w : World} {K : PySem.W.Frag} {mg : Str → Option Value} {base : Heap} {N ps : List Str} {qual : Str} {scope : Scope} {f : Addr} {cd : Value} {A : Around} {outer : List Env} {s s1 : Shared} {H : Hp} {E : XK} {us : List Value} {vs : List V}
  (S : FnScope N ps scope) (hd : A.handled = none) (e0 : Env0 P w K mg base A outer s H) (hl : vs.length = ps.length) (r : Vals vs us)
  (x : InCallC s s.heap.objs.size (bindL (envOfC qual scope s.heap.objs.size f cd).kindOf (ps.zip us) fun _ => none) (cellsFrom (s.heap.objs.size + 1) scope.names []) (bindC (envOfC qual scope s.heap.objs.size f cd).kindOf (ps.zip us) fun _ => none) s1) :
  Inv (cxOf CX P w K mg base N qual scope f cd A outer s H E) [] (start N vs) H s1 := by
 have hpl : ps.length ≤ N.length := by have := congrArg List.length S.pre; rw [List.length_take] at this; omega
 obtain ⟨h1, tk, rfl, hk⟩ := x.done
 have noA : ∀ b : Addr, b ∉ (cxOf CX P w K mg base N qual scope f cd A outer s H E).ex := fun b z => absurd (show b ∈ ([] : List Addr) from z) (by simp)
 refine ⟨⟨e0.mod, S.kind, rfl, rfl, Nat.le_refl _, fun y z c h1 h2 => ?_, fun y hy => ?_, fun y c _ h => ?_, fun _ => hd, Around.frames_deeper e0.frames, .inr ⟨rfl, rfl⟩, fun b z => absurd z (noA b), e0.bs, e0.bsz, fun b _ _ => noA b, fun b z => absurd z (noA b), e0.funs, e0.frf⟩,
  rfl, e0.bare, Un.kept hk, ⟨_, x.toInCall.ns, fun i y v h1 h2 h3 => ?_⟩, fun y c h => ⟨_, x.cell y c h⟩, e0.hok.fresh (Nat.le_refl _), fun y c h => ?_, fun p hp => absurd (show p ∈ ([] : List (Addr × Obj)) from hp) (by simp), e0.hok.kept hk, ?_⟩
 ·exact name_of_addr x.apart (PySem.mem_of_lookup h1) (PySem.mem_of_lookup h2)
 ·have hy : scope.names.lookup y = some .cell ∨ scope.names.lookup y = some .free := hy
  rcases hy with hy | hy
  ·exact cell_has hy
  ·exact absurd rfl (S.nofree _ (PySem.mem_of_lookup hy))
 ·exact Nat.le_of_lt (x.above y c (PySem.mem_of_lookup h))
 ·have hi : i < vs.length := by
   unfold start at h2
   by_cases hi : i < vs.length
   ·exact hi
   ·rw [List.getElem?_append_right (by simpa using hi)] at h2
    rw [List.getElem?_replicate] at h2
    split at h2 <;> cases h2
  have ha : vs[i]? = some v := by
   unfold start at h2
   rw [List.getElem?_append_left (by simpa using hi), List.getElem?_map] at h2
   cases e : vs[i]? with
   | none => rw [e] at h2; cases h2
   | some a => rw [e] at h2; cases h2; rfl
  obtain ⟨u, hu, rv⟩ := r.get ha
  have hp : ps[i]? = some y := by
   rw [← S.pre, List.getElem?_take_of_lt (by omega)]; exact h1
  have ndP : ps.Nodup := by rw [← S.pre]; exact S.nd.sublist (List.take_sublist _ _)
  refine ⟨u, rv, ?_⟩
  rcases S.par y (List.mem_of_getElem? hp) with k | k
  ·exact .inl ⟨k, bindL_get ndP hp hu k⟩
  ·obtain ⟨c, e⟩ := cell_has (n := s.heap.objs.size + 1) k
   refine .inr ⟨.inl k, c, e, ?_⟩
   have q := x.cell y c e
   rw [bindC_get ndP hp hu (by show scope.names.lookup y ≠ _; rw [k]; decide)] at q
   exact q
 ·exact e0.hok.fresh (Nat.le_of_lt (x.above y c (PySem.mem_of_lookup h)))
 ·unfold start
  show _ = N.length
  rw [List.length_append, List.length_map, List.length_replicate]
  omega
theorem fn_of {CX : CXT} {P : Program} {w : World} {K : PySem.W.Frag} {mg : Str → Option Value} {base : Heap} {k : Nat} {f : Addr} {name qual : Str} {params : Arguments} {body : List Stmt} {scope : Scope} {dV kV doc pm cdv ct oc : Value} {an od : Option Addr}
  {osl : Array (Option Value)} {N ps : List Str} {sp : Sp} (lk : K.lookup f = some ⟨oc, od, .func (PySem.W.fnOf name qual params body scope dV kV doc pm an cdv ct), osl⟩) (hcd : PySem.W.codeIn K cdv qual = true) (S : FnScope N ps scope)
  (len : ∀ vs H Q E, sp vs H Q E → vs.length = ps.length)
  (hbody : ∀ (A : Around) (outer : List Env) (s : Shared) (H : Hp) (vs : List V) (Q : VK) (E : XK), Room k (A.deeper (envOfC qual scope s.heap.objs.size f cdv)) → sp vs H Q E →
   ∃ t, PSs (cxOf CX P w K mg base N qual scope f cdv A outer s H E) body t ∧ t { nx := fun _ H' => Q .non H', rt := Q } (start N vs) H) :
  FnOk P w K mg base CX (k + 1) f (PySem.W.fnOf name qual params body scope dV kV doc pm an cdv ct) ps sp := by
 refine ⟨len, fun A outer s H args us vs Q E hr e0 hb r hsp => ?_⟩
 have hl := len _ _ _ _ hsp
 have KX : K.In s.heap := e0.mod.kin.keeps fun b o e => (e0.bs b o e).1
 have lim : s.heap.NoLimit := e0.mod.nolimit.keeps fun b o e => (e0.bs b o e).1
 have hkind : ∀ y ∈ ps.zip us, scope.names.lookup y.1 = some .local ∨ (scope.names.lookup y.1 = some .cell ∧ ((cellsFrom (s.heap.objs.size + 1) scope.names []).lookup y.1).isSome = true) := fun ⟨n, v⟩ hy => by
  rcases S.par n (List.of_mem_zip hy).1 with q | q
  ·exact .inl q
  ·exact .inr ⟨q, PySem.W.cellsFrom_some _ _ _ (.inl q)⟩
 refine codeAny_call_function hr.depth (KX _ _ lk) rfl S.co S.gen rfl (PySem.W.codeRec_of KX hcd) (hb _ _ _ _ ?_)
 refine wpAny_newFunctionEnv_cells S.kind hkind fun env he s1 x => ?_
 subst he
 refine ⟨lim.keeps x.toInCall.keep, codeAny_func ?_⟩
 obtain ⟨t, ht, hq⟩ := hbody A outer s H vs Q E (hr.deeper _) hsp
 have I : Inv (cxOf CX P w K mg base N qual scope f cdv A outer s H E) [] (start N vs) H s1 := inv_start S hr.hd e0 hl r x
 refine wpAny_mono (ht [] s1 (start N vs) H _ I hq) (fun fl s' hs => ?_) fun e s' hs => hs
 have fin : ∀ {σ' : St} {H' : Hp} {v : V} {u : Value}, Inv (cxOf CX P w K mg base N qual scope f cdv A outer s H E) [] σ' H' s' → RelV v u → Q v H' → CE outer P w H s Q u s' :=
  fun {σ' H' v u} J rv q => ⟨v, H', J.os, J.bare, J.base, J.hok, rv, q⟩
 cases fl with
 | ret u =>
  obtain ⟨v, σ', H', J, rv, q⟩ := hs
  exact fin J rv q
 | next =>
  obtain ⟨σ', H', J, q⟩ := hs
  exact fin (v := V.non) (u := Value.none) J rfl q
 | brk =>
  obtain ⟨_, _, _, q⟩ := hs
  exact False.elim q
 | cont =>
  obtain ⟨_, _, _, q⟩ := hs
  exact False.elim q
end L2
namespace L2
open PySem PySem.Spec PyProof.Rows
section
variable {X : Cx} {x : Str} {p pos : Pos} {e : Expr} {es : List Expr} {t : TA} {id T : String} {r : List V → Hp → VK → Prop}
noncomputable def tCB (r : List V → Hp → VK → Prop) (t : TA) : TE := fun σ H Q => t σ H fun vs H1 => r vs H1 Q
theorem pe_callB (hc : CallR X (.builtin id) r) (hg : Gl X x) (hm : X.mg x = none) (hv : bootBuiltins x = some (.builtin id)) (ha : PA X (e :: es) t) (hn : x ≠ "__name__" := by decide) (hdb : (x == ("__debug__" : Str)) = false := by decide)
  (he : starEach (e :: es) X.env = (false, eval e X.env) :: starEach es X.env := by rfl) (hpl : (backTo pos (starEach es X.env)).any (·.1) = false := by rfl) : PE X (.Call (.Name x p) (e :: es) [] pos) (tCB r t) := by
 intro pins s σ H Q I h
 refine wpAny_Call_Name_kw (ld_blt I hg hm hv ?_ hn hdb)
 exact PyProof.Rows.callWith_builtin1 (thn (ha pos pins s σ H _ I h) fun us s1 ⟨vs, H1, I1, r1, q1⟩ => hc pins s1 σ H1 vs us Q I1 r1 q1) he hpl
end
end L2
namespace HT
open PySem PyProof.Rows
section
variable {prog : Program} {w : World} {A : Around} {E : Value → Shared → Prop} {s : Shared}
noncomputable def sIx (n d : Nat) : Option Int → Nat
 | none => d
 | some v => if v < 0 then (v + (n : Int)).toNat else min v.toNat n
end
end HT
namespace L2
open PySem PySem.Spec PyProof.Rows
noncomputable abbrev TO := St → Hp → (Option Int → Hp → Prop) → Prop
noncomputable def PO (X : Cx) (e : Option Expr) (t : TO) : Prop :=
 ∀ (pins : List (Addr × Obj)) (s : Shared) (σ : St) (H : Hp) (Q : Option Int → Hp → Prop), Inv X pins σ H s → t σ H Q →
  wpAny (model X.prog X.w) X.A (evalPart e X.env) (fun u s' => ∃ o H', Inv X pins σ H' s' ∧ IsPart u o ∧ Q o H') X.xe s
noncomputable def tNoPart : TO := fun _ H Q => Q none H
noncomputable def tPart (t : TE) : TO := fun σ H Q => t σ H fun x H1 => ∃ i, x = .int i ∧ Q (some i) H1
section
variable {X : Cx} {e : Expr} {te : TE} {lo hi : Option Expr} {tl th : TO} {pos p2 : Pos}
theorem po_none : PO X none tNoPart := by
 intro pins s σ H Q I h
 rw [evalPart_none]
 exact wpAny_pure ⟨none, H, I, .none, h⟩
theorem po_some (h : PE X e te) : PO X (some e) (tPart te) := by
 intro pins s σ H Q I hw
 rw [evalPart_some]
 refine thn (h pins s σ H _ I hw) fun u s1 ⟨x, H1, I1, r1, q1⟩ => ?_
 obtain ⟨i, rfl, q⟩ := q1
 obtain ⟨t, rfl⟩ := r1
 exact ⟨some i, H1, I1, .int i t, q⟩
noncomputable def SlR (X : Cx) (r : V → Option Int → Option Int → Hp → VK → Prop) : Prop :=
 ∀ (pins : List (Addr × Obj)) (s : Shared) (σ : St) (H : Hp) (x : V) (v vl vu : Value) (lo hi : Option Int) (sl : Addr) (Q : VK), Inv X pins σ H s → RelV x v → s.heap.IsSliceOf sl vl vu .none → IsPart vl lo → IsPart vu hi → r x lo hi H Q →
  ∃ T id, typeLookup (.type T) "__getitem__" = pure (some (.builtin id)) ∧ s.TypeIs v T ∧ wpAny (model X.prog X.w) X.A (getItem v (.ref sl)) (EP X pins σ Q) X.xe s
noncomputable def tSl (r : V → Option Int → Option Int → Hp → VK → Prop) (te : TE) (tl th : TO) : TE := fun σ H Q => te σ H fun x H1 => tl σ H1 fun l H2 => th σ H2 fun u H3 => r x l u H3 Q
theorem pe_slice {r : V → Option Int → Option Int → Hp → VK → Prop} (hr : SlR X r) (he : PE X e te) (hl : PO X lo tl) (hu : PO X hi th) : PE X (.Subscript e (.Slice lo hi none p2) pos) (tSl r te tl th) := by
 intro pins s σ H Q I h
 refine Subscript_ (thn (he pins s σ H _ I h) fun v s1 ⟨x, H1, I1, r1, q1⟩ => ?_)
 refine wpAny_Slice (thn (hl pins s1 σ H1 _ I1 q1) fun vl s2 ⟨l, H2, I2, pl, q2⟩ => thn (hu pins s2 σ H2 _ I2 q2) fun vu s3 ⟨u, H3, I3, pu, q3⟩ => ?_)
 rw [evalPart_none]
 refine wpAny_pure ?_
 have I4 : Inv X pins σ H3 { s3 with heap := s3.heap.push { cls := .type "slice", data := .fields #[vl, vu, .none] } } := I3.kept (t' := s3.toks) fun b ob q => Heap.get?_push_of_some _ q
 obtain ⟨T, id, hT, ht, hg⟩ := hr pins { s3 with heap := s3.heap.push { cls := .type "slice", data := .fields #[vl, vu, .none] } } σ H3 x v vl vu l u s3.heap.objs.size Q I4 r1 (Heap.IsSliceOf.new ..) pl pu q3
 show wpAny (model X.prog X.w) X.A (subscriptTail e (.Slice lo hi none p2) v (.ref s3.heap.objs.size)) (EP X pins σ Q) X.xe { s3 with heap := s3.heap.push { cls := .type "slice", data := .fields #[vl, vu, .none] } }
 exact tail_any (ops := [.ref s3.heap.objs.size, v]) ht hT hg (by with_unfolding_all rfl)
noncomputable def cutV (xs : List V) (lo hi : Option Int) : List V := (xs.drop (HT.sIx xs.length 0 lo)).take (HT.sIx xs.length xs.length hi - HT.sIx xs.length 0 lo)
theorem cutV_length (xs : List V) (lo hi : Option Int) : (cutV xs lo hi).length ≤ xs.length := by
 unfold cutV
 rw [List.length_take, List.length_drop]
 omega
end
end L2
namespace L2
open PySem PySem.Spec PyProof.Rows
noncomputable def ixN (n : Nat) (i : Int) : Option Nat := if 0 ≤ i then (if i < n then some i.toNat else none) else if -(n : Int) ≤ i then some (i + n).toNat else none
noncomputable def atI {α : Type} (xs : List α) (i : Int) : Option α := (ixN xs.length i).bind fun j => xs[j]?
theorem atI_nat {α : Type} {xs : List α} {j : Nat} {v : α} (h : xs[j]? = some v) : atI xs (j : Int) = some v := by
 have hj : j < xs.length := (List.getElem?_eq_some_iff.mp h).1
 have e : ixN xs.length (j : Int) = some j := by
  unfold ixN
  rw [if_pos (by omega), if_pos (by omega)]; simp
 unfold atI; rw [e]; exact h
noncomputable def MtR (X : Cx) (id : String) (r : V → List V → Hp → VK → Prop) : Prop :=
 ∀ (pins : List (Addr × Obj)) (s : Shared) (σ : St) (H : Hp) (x : V) (xs : List V) (v : Value) (us : List Value) (Q : VK), Inv X pins σ H s → RelV x v → Vals xs us → r x xs H Q →
  wpAny (model X.prog X.w) X.A (call (.builtin id) (v :: us)) (EP X pins σ Q) X.xe s
section
variable {X : Cx} {a b : Expr} {ta tb : TE} {pos : Pos}
theorem Inv.lst {pins : List (Addr × Obj)} {σ : St} {H : Hp} {s : Shared} {p : Addr} {xs : List V} (I : Inv X pins σ H s) (h : H p = some (.lst xs)) :
  ∃ (its : List Value) (n : Nat), Vals xs its ∧ s.heap.get? p = some { cls := .type "list", data := .seq its.toArray n } ∧ xs.length ≤ sizeLine := by
 obtain ⟨z, its, n, r, e⟩ := I.hok p _ h
 exact ⟨its, n, r, e, z⟩
theorem slice_bounds (lo hi : Option Int) (n : Nat) : (sliceBounds lo hi none n).1 = ((HT.sIx n 0 lo : Nat) : Int) ∧ (sliceBounds lo hi none n).2.1 = ((HT.sIx n n hi : Nat) : Int) ∧ (sliceBounds lo hi none n).2.2 = 1 := by
 refine ⟨?_, ?_, rfl⟩
 ·cases lo with
  | none => simp [sliceBounds, HT.sIx]
  | some i =>
   simp only [sliceBounds, HT.sIx, Option.getD_none, show (1 : Int) > 0 by decide, if_true]
   by_cases h : i < 0
   ·simp only [h, if_true] <;> omega
   ·simp only [h, if_false] <;> omega
 ·cases hi with
  | none => simp [sliceBounds, HT.sIx]
  | some i =>
   simp only [sliceBounds, HT.sIx, Option.getD_none, show (1 : Int) > 0 by decide, if_true]
   by_cases h : i < 0
   ·simp only [h, if_true] <;> omega
   ·simp only [h, if_false] <;> omega
theorem slicePick_cut (its : List Value) (lo hi : Option Int) : slicePick its.toArray lo hi none = ((its.drop (HT.sIx its.length 0 lo)).take (HT.sIx its.length its.length hi - HT.sIx its.length 0 lo)).toArray := by
 obtain ⟨h1, h2, h3⟩ := slice_bounds lo hi its.toArray.size
 unfold slicePick
 rw [h1, h2, h3]
 simp only [sliceRange_one, pick_run, List.size_toArray] <;> rfl
noncomputable def rSlL (K : PySem.W.Frag) : V → Option Int → Option Int → Hp → VK → Prop := fun x lo hi H Q => ∃ a xs, x = .ref a ∧ SqL K H a xs ∧ ∀ p, H p = none → Q (.ref p) (upd H p (.lst (cutV xs lo hi)))
theorem sl_list : SlR X (rSlL X.K) := by
 intro pins s σ H x v vl vu lo hi sl Q I rx hs pl pu h
 obtain ⟨a, xs, rfl, hx, q⟩ := h
 cases rx
 obtain ⟨its, r, ht, hz⟩ := I.list hx
 have hlen := r.length
 refine ⟨"list", _, slot_list_getitem.lookup, ht.isList.typeIs, ?_⟩
 refine wpAny_getItem_list_slice ht.isList hs pl pu .none (by simp) ?_ (by rw [List.size_toArray] <;> omega)
 rw [slicePick_cut, ← hlen]
 refine ⟨.ref s.heap.objs.size, _, I.laid (t' := s.toks) (o := .lst (cutV xs lo hi)) (fun b ob q => Heap.get?_push_of_some _ q) (Nat.le_refl _) ?_, rfl, q _ (I.hok.fresh (Nat.le_refl _))⟩
 exact ⟨Nat.le_trans (cutV_length xs lo hi) hz, _, 0, (r.drop (HT.sIx xs.length 0 lo)).take (HT.sIx xs.length xs.length hi - HT.sIx xs.length 0 lo), Heap.get?_push_size _ rfl⟩
noncomputable def flatV : V → Bool
 | .non => true
 | .bl _ => true
 | .int _ => true
 | .str _ => true
 | _ => false
noncomputable def eqV : V → V → Bool
 | .non, .non => true
 | .bl a, .bl b => a == b
 | .bl a, .int b => (if a then 1 else 0) == b
 | .int a, .bl b => a == (if b then 1 else 0)
 | .int a, .int b => a == b
 | .str a, .str b => a == b
 | _, _ => false
theorem eqAt_V {A : Around} {s : Shared} {y x : V} {u v : Value} (ry : RelV y u) (rx : RelV x v) (fy : flatV y = true) (fx : flatV x = true) : SeqAt.EqAt A s u v (eqV y x) := by
 cases y with
 | non =>
  cases ry
  cases x with
  | non => cases rx; exact SeqAt.EqAt.same _
  | bl b => cases rx; exact SeqAt.EqAt.none_bool b
  | int b => obtain ⟨t, rfl⟩ := rx; exact SeqAt.EqAt.none_int b t
  | str b => obtain ⟨t, rfl⟩ := rx; exact SeqAt.EqAt.none_str b t
  | _ => exact absurd (show false = true from fx) Bool.false_ne_true
 | bl a =>
  cases ry
  cases x with
  | non => cases rx; exact SeqAt.EqAt.bool_none a
  | bl b => cases rx; exact SeqAt.EqAt.bool_bool a b
  | int b => obtain ⟨t, rfl⟩ := rx; exact SeqAt.EqAt.bool_int a b t
  | str b => obtain ⟨t, rfl⟩ := rx; exact SeqAt.EqAt.bool_str a b t
  | _ => exact absurd (show false = true from fx) Bool.false_ne_true
 | int a =>
  obtain ⟨t', rfl⟩ := ry
  cases x with
  | non => cases rx; exact SeqAt.EqAt.int_none a t'
  | bl b => cases rx; exact SeqAt.EqAt.int_bool a t' b
  | int b => obtain ⟨t, rfl⟩ := rx; exact SeqAt.EqAt.int_int a t' b t
  | str b => obtain ⟨t, rfl⟩ := rx; exact SeqAt.EqAt.int_str a t' b t
  | _ => exact absurd (show false = true from fx) Bool.false_ne_true
 | str a =>
  obtain ⟨t', rfl⟩ := ry
  cases x with
  | non => cases rx; exact SeqAt.EqAt.str_none a t'
  | bl b => cases rx; exact SeqAt.EqAt.str_bool a t' b
  | int b => obtain ⟨t, rfl⟩ := rx; exact SeqAt.EqAt.str_int a t' b t
  | str b => obtain ⟨t, rfl⟩ := rx; exact SeqAt.EqAt.str_str a t' b t
  | _ => exact absurd (show false = true from fx) Bool.false_ne_true
 | _ => exact absurd (show false = true from fy) Bool.false_ne_true
noncomputable def tyV (K : PySem.W.Frag) (T : String) (x : V) (H : Hp) : Prop := match x with
 | .str _ => T = "str"
 | .int _ => T = "int"
 | .ref p => (T = "list" ∧ ∃ xs, SqL K H p xs) ∨ (T = "tuple" ∧ ∃ o, K.lookup p = some o ∧ o.cls = .type "tuple" ∧ o.dict = none) ∨
   (T = "dict" ∧ ((∃ kvs, H p = some (.dK kvs)) ∨ ∃ kvs, H p = some (.dT kvs))) ∨ (T = "set" ∧ ∃ S n, H p = some (.set S n))
 | _ => False
theorem tyV_is {pins : List (Addr × Obj)} {σ : St} {H : Hp} {s : Shared} {T : String} {x : V} {v : Value} (I : Inv X pins σ H s) (r : RelV x v) (ty : tyV X.K T x H) :
  s.TypeIs v T ∧ ∀ a, v = .ref a → ∃ ob, s.heap.get? a = some ob ∧ ob.dict = none := by
 cases x with
 | str z =>
  obtain ⟨t, rfl⟩ := r
  cases (show T = "str" from ty)
  exact ⟨typeIs_str s z t, fun _ e => nomatch e⟩
 | int i =>
  obtain ⟨t, rfl⟩ := r
  cases (show T = "int" from ty)
  exact ⟨typeIs_int s i t, fun _ e => nomatch e⟩
 | ref p =>
  cases r
  rcases ty with ⟨rfl, xs, hq⟩ | ⟨rfl, o, hk, hc, hd⟩ | ⟨rfl, hk⟩ | ⟨rfl, S, n, hk⟩
  ·obtain ⟨its, _, pl, _⟩ := I.list hq
   refine ⟨pl.isList.typeIs, fun a e => ?_⟩
   cases e
   obtain ⟨o, n, e, c, hd, _⟩ := pl
   exact ⟨o, e, hd⟩
  ·refine ⟨⟨o, I.kIn p o hk, hc⟩, fun a e => ?_⟩
   cases e
   exact ⟨o, I.kIn _ o hk, hd⟩
  ·have z : ∃ o, s.heap.get? p = some o ∧ o.ExactDict := by
    rcases hk with ⟨kvs, hk⟩ | ⟨kvs, hk⟩
    ·obtain ⟨_, _, _, _, o, _, _, e, ex, _⟩ := I.hok p _ hk
     exact ⟨o, e, ex⟩
    ·obtain ⟨_, _, _, _, o, _, _, e, ex, _⟩ := I.hok p _ hk
     exact ⟨o, e, ex⟩
   obtain ⟨o, e, ex⟩ := z
   refine ⟨⟨o, e, ex.1⟩, fun a e2 => ?_⟩
   cases e2
   exact ⟨o, e, ex.2.1⟩
  ·obtain ⟨o, _, _, _, e, ex, _⟩ := I.hok p _ hk
   refine ⟨⟨o, e, ex.1⟩, fun a e2 => ?_⟩
   cases e2
   exact ⟨o, e, ex.2.1⟩
 | _ => exact False.elim ty
noncomputable def tBM (K : PySem.W.Frag) (T : String) (r : V → List V → Hp → VK → Prop) (to : TE) (t : TA) : TE := fun σ H Q => to σ H fun x H1 => tyV K T x H1 ∧ t σ H1 fun xs H2 => r x xs H2 Q
variable {o e : Expr} {es : List Expr} {to : TE} {t : TA} {name : Str} {apos cpos : Pos} {T id : String} {r : V → List V → Hp → VK → Prop}
theorem pe_bm (pa : PlainAttrs T) (slot : Slot T name id) (hty : typeOf (.builtin id) = pure (.type "method_descriptor")) (hm : MtR X id r) (ho : PE X o to) (ha : PA X (e :: es) t)
  (hbase : attributeBase o name X.env (eval o X.env) = eval o X.env := by rfl)
  (hfew : ((backTo cpos (starEach (e :: es) X.env)).all (fun x => !x.1) && (backToKw cpos (keywordEach [] X.env)).all (fun x => x.1.isSome)
   && decide ((e :: es).length + ([] : List Keyword).length + (if ([] : List Keyword).isEmpty then 0 else 1) < 30)) = true := by rfl)
  (hline : (apos.endLine == cpos.line) = true := by rfl) (hs : starEach (e :: es) X.env = (false, eval e X.env) :: starEach es X.env := by rfl) (hplain : (backTo cpos (starEach es X.env)).any (·.1) = false := by rfl) :
  PE X (.Call (.Attribute o name apos) (e :: es) [] cpos) (tBM X.K T r to t) := by
 intro pins s σ H Q I h
 refine wpAny_Call_method_late hbase hfew hline rfl (thn (ho pins s σ H _ I h) fun v s1 ⟨x, H1, I1, r1, ty, q1⟩ => ?_)
 obtain ⟨h1, h2⟩ := tyV_is I1 r1 ty
 refine ⟨T, id, pa, slot, hty, h1, h2, ?_⟩
 have hA := ha cpos pins s1 σ H1 _ I1 q1
 rw [hs] at hA ⊢
 refine Calls.callWith_builtin (by show (false || (backTo cpos (starEach es X.env)).any (·.1)) = false; rw [hplain] <;> rfl) (Calls.evalArgs_plain ?_)
 exact thn hA fun us s2 ⟨vs, H2, I2, r2, q2⟩ => hm pins s2 σ H2 x vs v us Q I2 r1 r2 q2
end
end L2
namespace L2
open PySem PySem.Spec PyProof.Rows
noncomputable def MtM (X : Cx) (id : String) (r : V → List V → Hp → VK → Prop) : Prop :=
 ∀ (pins : List (Addr × Obj)) (s : Shared) (σ : St) (H : Hp) (x : V) (xs : List V) (v : Value) (us : List Value) (Q : VK), Inv X pins σ H s → RelV x v → Vals xs us → r x xs H Q →
  wpAny (model X.prog X.w) X.A (call (.builtin id) (v :: us)) (EP X pins σ Q) X.xe s
theorem Vals.one : ∀ {x : V} {us : List Value}, Vals [x] us → ∃ u, us = [u] ∧ RelV x u
 | _, _, .cons r .nil => ⟨_, rfl, r⟩
theorem Vals.two : ∀ {x y : V} {us : List Value}, Vals [x, y] us → ∃ u v, us = [u, v] ∧ RelV x u ∧ RelV y v
 | _, _, _, .cons r (.cons q .nil) => ⟨_, _, rfl, r, q⟩
theorem Vals.dropLast {xs : List V} {us : List Value} (h : Vals xs us) : Vals xs.dropLast us.dropLast := by
 induction h with
 | nil => exact .nil
 | cons r t ih =>
  cases t with
  | nil => exact .nil
  | cons q t' => exact .cons r ih
theorem Vals.eraseIdx : ∀ {xs : List V} {us : List Value} (i : Nat), Vals xs us → Vals (xs.eraseIdx i) (us.eraseIdx i)
 | _, _, _, .nil => .nil
 | _, _, 0, .cons _ t => t
 | _, _, i + 1, .cons r t => .cons r (Vals.eraseIdx i t)
theorem Vals.reverse {xs : List V} {us : List Value} (h : Vals xs us) : Vals xs.reverse us.reverse := by
 induction h with
 | nil => exact .nil
 | cons r t ih => rw [List.reverse_cons, List.reverse_cons]; exact Vals.append ih (.cons r .nil)
section
variable {X : Cx} {pins : List (Addr × Obj)} {σ : St} {H : Hp} {s : Shared} {l b : Addr} {xs ys zs : List V}
theorem Inv.lnew {its : List Value} {t' : Nat} (I : Inv X pins σ H s) (hv : Vals ys its) (hz : ys.length ≤ sizeLine) :
  Inv X pins σ (upd H s.heap.objs.size (.lst ys)) { s with heap := s.heap.push { cls := .type "list", data := .seq its.toArray }, toks := t' } :=
 I.laid (fun _ _ q => Heap.get?_push_of_some _ q) (Nat.le_refl _) ⟨hz, its, 0, hv, Heap.get?_push_size _ rfl⟩
theorem Inv.fresh (I : Inv X pins σ H s) : H s.heap.objs.size = none := I.hok.fresh (Nat.le_refl _)
theorem Inv.lstM (I : Inv X pins σ H s) (hH : H l = some (.lst xs)) : xs.length ≤ sizeLine ∧ ∃ (its : List Value) (n : Nat), Vals xs its ∧ xs.length = its.length ∧ s.heap.get? l = some { cls := .type "list", data := .seq its.toArray n } := by
 obtain ⟨z, its, n, r, e⟩ := I.hok l _ hH
 exact ⟨z, its, n, r, r.length, e⟩
end
section
variable {X : Cx}
noncomputable def rCat : R2 := fun x y H Q => ∃ l b xs zs, x = .ref l ∧ y = .ref b ∧ H l = some (.lst xs) ∧ H b = some (.lst zs) ∧ xs.length + zs.length ≤ sizeLine ∧ ∀ p, H p = none → Q (.ref p) (upd H p (.lst (xs ++ zs)))
theorem op_cat : OpR X (binaryOp .Add) rCat := by
 intro pins s σ H x y v u Q I rx ry h
 obtain ⟨l, b, xs, zs, rfl, rfl, hH, hB, hz, q⟩ := h
 cases rx
 cases ry
 obtain ⟨z, its, n, r, hl, e⟩ := I.lstM hH
 obtain ⟨z2, its2, n2, r2, hl2, e2⟩ := I.lstM hB
 refine PySem.P.add_list e e2 ?_ (by rw [List.size_toArray, List.size_toArray]; omega)
 have ea : its.toArray ++ its2.toArray = (its ++ its2).toArray := by simp
 rw [ea]
 exact ⟨.ref _, _, I.lnew (t' := s.toks) (r.append r2) (by rw [List.length_append]; omega), rfl, q _ I.fresh⟩
end
end L2
namespace Att
open PySem PySem.W PySem.Calls PyProof.Rows
theorem ints_of_wellAll {P : Params} {h : Heap} : ∀ (ns : List Int) (vs : List Value), WellAll P h vs (ns.map WData.int) → IntsAre vs ns := by
 intro ns
 induction ns with
 | nil =>
  intro vs w
  rw [List.map_nil] at w
  cases w
  exact .nil
 | cons n ns ih =>
  intro vs w
  rw [List.map_cons] at w
  cases w with
  | cons a b =>
   cases a
   exact .cons _ _ (ih _ b)
theorem script_of {l : OpenLaw} {n : Nat} (hn : l.most = some n) {P : Params} {h : Heap} {args : List WData} {vals : List Value}
  (hpre : l.row.toRowW.claim.pre args = true) (hwl : WellAll P h vals args) :
  ∃ a vs ns, vals = [Value.ref a] ∧ args = [WData.list (ns.map WData.int)] ∧ h.get? a = some { cls := .type "list", data := .seq vs.toArray } ∧ IntsAre vs ns ∧ ns.length ≤ n := by
 have hsh : WShape.hasAll [] args [.list .int] = true := (pre_splitW hpre).1
 have hc : l.pre.holds [] { args := args } = true := (pre_splitW hpre).2
 obtain ⟨d, r, rfl, h1, h2⟩ := hasAllW_cons hsh
 obtain rfl := hasAllW_nil h2
 obtain ⟨xs, rfl, h3⟩ := hasW_list h1
 obtain ⟨ns, rfl⟩ := items_int h3
 have hlen : ns.length ≤ n := by
  unfold OpenLaw.pre at hc
  have h4 : (WTm.not (.lt (.lit (.int (n : Int))) (.len (.arg 0)))).holds [] { args := [.list (ns.map .int)] } = true := by
   have h4 := (holds_andW hc).1
   rw [hn] at h4
   exact h4
  have h5 := condW_of h4 (w_not (w_lt w_lit (w_len_list (w_arg rfl))))
  rw [List.length_map] at h5
  refine Nat.le_of_not_lt fun q => ?_
  have q' : (n : Int) < ((ns.length : Nat) : Int) := by omega
  first
   | (rw [decide_eq_true q'] at h5; exact absurd h5 (by decide))
   | (simp at h5; omega)
 cases hwl with
 | cons w1 w2 =>
  cases w2
  cases w1 with
  | list ho hall => exact ⟨_, _, ns, rfl, rfl, ho, ints_of_wellAll ns _ hall, hlen⟩
theorem post_true (l : OpenLaw) (args : List WData) : l.row.toRowW.claim.post args (.bool true) args = true :=
 postW_of (r := l.row.toRowW) (X := (true == true))
  (show WShape.has [] (.bool true) .bool = true by first | rfl | decide | simp [WShape.has, WShape.arms, WShape.armsAll])
  (show (WTm.eq .res (.lit (.bool true))).value [] { args := args, res := some (.bool true), after := args } = some (.bool (true == true)) from w_eq_bool (w_res rfl) w_lit) rfl
theorem attach_call {l : OpenLaw} {n : Nat} {q : Program} {loose : List Str} {XP : (Str → Option Value) → Heap → Prop} {YP : World → Heap → Prop} {d : DefRec}
  (hn : l.most = some n) (hdf : d.params.defaults = [])
  (call : ∀ (w : World) (s₀ s₁ : Shared) (mg mb : Str → Option Value) (fa : Addr) (o : Obj) (pm cd doc : Value) (a : Addr) (vs : List Value) (ns : List Int),
   Ground q loose [] XP w s₀ mg mb s₁.heap → YP w s₁.heap →
   s₁.heap.get? fa = some o → o.data = .func (docDef d.name d.params d.body d.scope pm cd doc) → s₁.heap.CodeRec cd d.name → mg d.name = some (.ref fa) →
   s₁.heap.get? a = some { cls := .type "list", data := .seq vs.toArray } → IntsAre vs ns → ns.length ≤ n → s₁.gens = #[] →
   codeAny (model l.prog w) callerA (.call (.ref fa) ⟨[.ref a], []⟩) (fun r s' => r = .ok (.ret (.bool true)) ∧ OldK s₁.heap s'.heap ∧ s'.os = s₁.os ∧ AllBare s'.gens) s₁) :
  WalkO q loose XP YP l.row.toRowW d [] (fun f vs => PySem.call f vs) := by
 intro w s₀ s₁ mg mb G Y fa o pm cd doc dV kV ho hd hcd hD hmg hg args vals as hpre hlay hrd hwl hlo
 obtain rfl : dV = .none := Dflts.none hD hdf
 obtain rfl : kV = .none := Dflts.noKw hD
 obtain ⟨a, vs, ns, rfl, rfl, hobj, hints, hlen⟩ := script_of hn hpre hwl
 refine enter_call (codeAny_mono (call w s₀ s₁ mg mb fa o pm cd doc a vs ns G Y ho (fd_plain hd) hcd hmg hobj hints hlen hg) fun r s' hq => ?_)
 obtain ⟨rfl, h2, h3, h4⟩ := hq
 exact ⟨.inl ⟨.bool true, .bool true, [], rfl, fun _ => rfl, .bool true, post_true l _, fun _ => ⟨List.Pairwise.nil, fun _ hm => (nomatch hm)⟩⟩, h2, h3, h4⟩
end Att
namespace L2
open PySem PySem.Spec PyProof.Rows
theorem vals_ints : ∀ {vs : List Value} {ns : List Int}, IntsAre vs ns → Vals (ns.map V.int) vs
 | _, _, .nil => .nil
 | _, _, .cons n t h => .cons ⟨t, rfl⟩ (vals_ints h)
noncomputable def Only (H : Hp) : Prop := ∀ b, H b = none ∨ ∃ o xs, H b = some (.frz o (.lst xs))
theorem law_call {P : Program} {w : World} {K : PySem.W.Frag} {mg mb : Str → Option Value} {CX : CXT} {k : Nat} {fa a : Addr} {fd : FuncData} {x : Str} {sp : Sp} {s₁ : Shared} {vs : List Value} {ns : List Int}
  (KX : K.In s₁.heap) (hns : s₁.heap.Ns mainGlobals mg) (hb : s₁.heap.Ns builtinsNs mb) (hbb : ∀ x : Str, x ≠ "__name__" → mb x = bootBuiltins x) (hlim : s₁.heap.NoLimit) (hg : s₁.gens = #[])
  (ha : s₁.heap.get? a = some { cls := .type "list", data := .seq vs.toArray }) (hi : IntsAre vs ns) (hl : ns.length ≤ sizeLine) (hr : Room k callerA)
  (F : ∀ base : Heap, K.In base → base.Ns mainGlobals mg → FnOk P w K mg base CX k fa fd [x] sp) (hbind : ∀ (s : Shared) (u : Value), BindsTo s fd ⟨[u], []⟩ [(x, u)])
  (hsp : ∀ H : Hp, Only H → SqL K H a (ns.map V.int) → sp [.ref a] H (fun v _ => v = .bl true) fun _ _ _ => False)
  (hCX : ∀ H e s', CX [] H s₁ (fun _ _ _ => False) e s' → False) :
  codeAny (model P w) callerA (.call (.ref fa) ⟨[.ref a], []⟩) (fun r s' => r = .ok (.ret (.bool true)) ∧ OldK s₁.heap s'.heap ∧ s'.os = s₁.os ∧ AllBare s'.gens) s₁ := by
 have rv := vals_ints hi
 have lenV := hi.length
 -- from an abstract heap in which nothing but the script may be tracked
 have core : ∀ H : Hp, Only H → SqL K H a (ns.map V.int) → HOk P w H s₁.heap → (∀ b, H b ≠ none → b = a) → (H a ≠ none → K.lookup a = none) →
   codeAny (model P w) callerA (.call (.ref fa) ⟨[.ref a], []⟩) (fun r s' => r = .ok (.ret (.bool true)) ∧ OldK s₁.heap s'.heap ∧ s'.os = s₁.os ∧ AllBare s'.gens) s₁ := by
  intro H hO hS hok hA hK
  have base_of : ∀ {b : Addr} {o : Obj}, s₁.heap.get? b = some o → H b = none → (hidT s₁.heap H).get? b = some o := fun e n => hidT_get e n
  have noA : ∀ {b : Addr} {o : Obj} {es : Array DictEntry} {ep : Nat}, s₁.heap.get? b = some o → o.data = .dict es ep → H b = none := fun {b o es ep} e d => by
   cases q : H b with
   | none => rfl
   | some u =>
    have e' : b = a := hA b (by rw [q]; simp)
    subst e'
    rw [ha] at e; cases e
    have d' : Data.seq vs.toArray _ = Data.dict es ep := d
    cases d'
  have nsK : ∀ {b : Addr} {m : Str → Option Value}, s₁.heap.Ns b m → (hidT s₁.heap H).Ns b m := fun {b m} ⟨o, es, ep, e, d, r⟩ => ⟨o, es, ep, base_of e (noA e d), d, r⟩
  have hKb : K.In (hidT s₁.heap H) := fun b o e => base_of (KX b o e) (by
   cases q : H b with
   | none => rfl
   | some u =>
    have e' : b = a := hA b (by rw [q]; simp)
    subst e'
    rw [hK (by rw [q]; simp)] at e; cases e)
  have hM : Mod K mg (hidT s₁.heap H) := ⟨hKb, nsK hns, ⟨mb, nsK hb, hbb⟩, let ⟨mc, h1, h2⟩ := hlim; ⟨mc, nsK h1, h2⟩⟩
  have e0 : Env0 P w K mg (hidT s₁.heap H) callerA [] s₁ H := ⟨rfl, hM, fun b o e => of_hidT e, Nat.le_of_eq (hidT_size _ _), trivial, fun b hb => absurd (show b ∈ ([] : List Addr) from hb) (by simp), hok, .of_eq hg⟩
  refine codeAny_mono ((F _ hKb (nsK hns)).run callerA [] s₁ H ⟨[.ref a], []⟩ [.ref a] [.ref a] _ _ hr e0 (hbind s₁ (.ref a)) (.cons rfl .nil) (hsp H hO hS)) fun r s' h => ?_
  cases r with
  | error e => exact (hCX H e s' h).elim
  | ok fl =>
   cases fl with
   | next => exact False.elim h
   | brk => exact False.elim h
   | cont => exact False.elim h
   | ret u =>
    obtain ⟨v, H', os, bare, un, hok', r', q⟩ := h
    have q' : v = .bl true := q
    subst q'
    obtain rfl : u = Value.bool true := r'
    refine ⟨rfl, OldK.of_keep fun b o e => ?_, os, bare⟩
    cases q : H b with
    | none => exact un.keep b o e q (by intro z; exact absurd (show b ∈ ([] : List Addr) from z) (by simp)) (by simp)
    | some u =>
     rcases hO b with z | ⟨ob, xs, z⟩
     ·rw [q] at z; cases z
     ·have z2 := un.frzs b ob _ z
      obtain ⟨e1, _⟩ := hok b _ z
      obtain ⟨e2, _⟩ := hok' b _ z2
      rw [e] at e1; cases e1
      exact e2
 cases hk : K.lookup a with
 | some o =>
  -- the script is one of the module's own objects
  have e := KX a o hk
  rw [ha] at e
  cases e
  refine core (fun _ => none) (fun _ => .inl rfl) (.inr ⟨_, vs.toArray, _, hk, rfl, rfl, rfl, by rw [List.size_toArray, lenV]; exact hl, by simpa using rv⟩) (fun b u z => by have z' : (none : Option HO) = some u := z; cases z') (fun b z => absurd rfl z) fun z => absurd rfl z
 | none =>
  refine core (fun b => if b = a then some (.frz { cls := .type "list", data := .seq vs.toArray } (.lst (ns.map V.int))) else none) (fun b => ?_) (.inl (.inr ⟨{ cls := .type "list", data := .seq vs.toArray }, if_pos rfl⟩)) (fun b u z => ?_) (fun b z => ?_) fun _ => hk
  ·by_cases hb : b = a
   ·exact .inr ⟨_, _, if_pos hb⟩
   ·exact .inl (if_neg hb)
  ·by_cases hb : b = a
   ·have z' := (if_pos hb).symm.trans z
    cases z'
    subst hb
    exact ⟨ha, by rw [List.length_map]; exact hl, vs, _, rv, ha⟩
   ·have z' := (if_neg hb).symm.trans z
    cases z'
  ·by_cases hb : b = a
   ·exact hb
   ·exact absurd (if_neg hb) z
end L2
namespace L2
open PySem PySem.Spec PyProof.Rows
theorem walk_of {l : PySem.W.OpenLaw} {n k : Nat} {q : Program} {loose : List Str} {XP : (Str → Option Value) → Heap → Prop} {YP : World → Heap → Prop} {d : DefRec} {K : Params → PySem.W.Frag} {CX : World → CXT} {sp : World → Sp} {x : Str}
  (hn : l.most = some n) (hn2 : n ≤ sizeLine) (hdf : d.params.defaults = []) (hr : Room k callerA)
  (hY : ∀ (w : World) (h : Heap), YP w h → (K w.params).In h)
  (F : ∀ (w : World) (mg : Str → Option Value) (fa : Addr) (h : Heap), (K w.params).In h → h.Ns mainGlobals mg → mg d.name = some (.ref fa) →
   ∃ fd : FuncData, (∀ (s : Shared) (u : Value), BindsTo s fd ⟨[u], []⟩ [(x, u)]) ∧
    ∀ base : Heap, (K w.params).In base → base.Ns mainGlobals mg → FnOk l.prog w (K w.params) mg base (CX w) k fa fd [x] (sp w))
  (hsp : ∀ (w : World) (H : Hp) (a : Addr) (ns : List Int), ns.length ≤ n → Only H → SqL (K w.params) H a (ns.map V.int) → sp w [.ref a] H (fun v _ => v = .bl true) fun _ _ _ => False)
  (hCX : ∀ (w : World) (H : Hp) (s : Shared) (e : Value) (s' : Shared), CX w [] H s (fun _ _ _ => False) e s' → False) :
  PySem.W.WalkO q loose XP YP l.row.toRowW d [] (fun f vs => PySem.call f vs) := by
 refine Att.attach_call hn hdf fun w s₀ s₁ mg mb fa o pm cd doc a vs ns G Y ho hd hcd hmg hobj hints hlen hg => ?_
 have KX := hY w _ Y
 obtain ⟨fd, hb, hF⟩ := F w mg fa _ KX G.T.g hmg
 exact law_call KX G.T.g G.T.b G.T.builtins G.T.nolimit hg hobj hints (Nat.le_trans hlen hn2) hr hF hb (fun H hO hS => hsp w H a ns hlen hO hS) fun H e s' => hCX w H s₁ e s'
end L2
namespace L2
open PySem PySem.Spec PyProof.Rows
noncomputable def defArgs (s : Stmt) : Arguments := match s with
 | .FunctionDef _ a _ _ _ _ _ _ _ _ => a
 | _ => { posonlyargs := [], args := [], vararg := none, kwonlyargs := [], kw_defaults := [], kwarg := none, defaults := [] }
noncomputable def defBody (s : Stmt) : List Stmt := match s with
 | .FunctionDef _ _ b _ _ _ _ _ _ _ => b
 | _ => []
noncomputable def defScope (s : Stmt) : Scope := match s with
 | .FunctionDef _ _ _ _ _ _ sc _ _ _ => sc
 | _ => { kind := .function, names := [], isGenerator := false, isCoroutine := false }
noncomputable abbrev CX0 : CXT := fun _ _ _ _ _ _ => False
noncomputable abbrev E0 : XK := fun _ _ _ => False
structure Fun (K : PySem.W.Frag) (x qual : Str) (st : Stmt) (f : Addr) (fd : FuncData) : Prop where
 ex : ∃ (oc : Value) (od : Option Addr) (kV doc pm : Value) (an : Option Addr) (cdv ct : Value) (osl : Array (Option Value)),
  fd = PySem.W.fnOf x qual (defArgs st) (defBody st) (defScope st) .none kV doc pm an cdv ct ∧ K.lookup f = some ⟨oc, od, .func fd, osl⟩ ∧ PySem.W.codeIn K cdv qual = true
 kp : PySem.W.keepIn K (.ref f) = true
section
variable {P : Program} {w : World} {K : PySem.W.Frag} {mg : Str → Option Value} {base : Heap}
theorem Fun.ok {x qual : Str} {st : Stmt} {f : Addr} {fd : FuncData} {N ps : List Str} {k : Nat} {sp : Sp} (F : Fun K x qual st f fd) (S : FnScope N ps (defScope st)) (len : ∀ vs H Q E, sp vs H Q E → vs.length = ps.length)
  (hbody : ∀ (cdv : Value) (A : Around) (outer : List Env) (s : Shared) (H : Hp) (vs : List V) (Q : VK) (E : XK), Room k (A.deeper (envOfC qual (defScope st) s.heap.objs.size f cdv)) → sp vs H Q E →
   ∃ t, PSs (cxOf CX0 P w K mg base N qual (defScope st) f cdv A outer s H E).nox (defBody st) t ∧ t { nx := fun _ H' => Q .non H', rt := Q } (start N vs) H) : FnOk P w K mg base CX0 (k + 1) f fd ps sp := by
 obtain ⟨oc, od, kV, doc, pm, an, cdv, ct, osl, rfl, lk, hcd⟩ := F.ex
 refine fn_of lk hcd S len fun A outer s H vs Q E hr hsp => ?_
 obtain ⟨t, h, q⟩ := hbody cdv A outer s H vs Q E hr hsp
 exact ⟨t, h.nox, q⟩
theorem Fun.binds {x qual : Str} {st : Stmt} {f : Addr} {fd : FuncData} {ps : List Str} (F : Fun K x qual st f fd)
  (h : ∀ (kV doc pm : Value) (an : Option Addr) (cdv ct : Value) (us : List Value), us.length = ps.length → bindArgs (PySem.W.fnOf x qual (defArgs st) (defBody st) (defScope st) .none kV doc pm an cdv ct) ⟨us, []⟩ = pure (ps.zip us)) : Binds K fd ps [] := by
 obtain ⟨oc, od, kV, doc, pm, an, cdv, ct, osl, rfl, lk, hcd⟩ := F.ex
 exact .all (h kV doc pm an cdv ct)
theorem fun_mk {x qual : Str} {st : Stmt} {f : Addr} {oc : Value} {od an : Option Addr} {osl : Array (Option Value)} {kV doc pm cdv ct : Value} (l : K.lookup f = some ⟨oc, od, .func (PySem.W.fnOf x qual (defArgs st) (defBody st) (defScope st) .none kV doc pm an cdv ct), osl⟩)
  (c : PySem.W.codeIn K cdv qual = true) (k : PySem.W.keepIn K (.ref f) = true) : Fun K x qual st f (PySem.W.fnOf x qual (defArgs st) (defBody st) (defScope st) .none kV doc pm an cdv ct) := ⟨⟨oc, od, kV, doc, pm, an, cdv, ct, osl, rfl, l, c⟩, k⟩
end
section
variable {X : Cx}
theorem pv (i : Nat) {x : Str} {pos : Pos} (hN : X.N[i]? = some x := by rfl) (hv : Vis X.env.scope x := by first | exact Or.inl rfl | exact Or.inr (Or.inl rfl) | exact Or.inr (Or.inr rfl)) (hd : (x == ("__debug__" : Str)) = false := by decide)
  (hcd : (x == ("__classdict__" : Str)) = false := by decide) : PE X (.Name x pos) (tVar i) := pe_var hN hv hd hcd
end
noncomputable def Same (H H' : Hp) : Prop := ∀ b o, H b = some o → H' b = some o
theorem Same.refl (H : Hp) : Same H H := fun _ _ h => h
theorem Same.trans {H H1 H2 : Hp} (a : Same H H1) (b : Same H1 H2) : Same H H2 := fun c o h => b c o (a c o h)
theorem Same.free {H H' : Hp} (e : Same H H') {l : Addr} (h : H' l = Option.none) : H l = Option.none := by
 cases q : H l with
 | none => rfl
 | some o =>
  rw [e l o q] at h
  cases h
theorem Same.seq {K : PySem.W.Frag} {H H' : Hp} {a : Addr} {xs : List V} (e : Same H H') (h : SqL K H a xs) : SqL K H' a xs := by
 rcases h with (h | ⟨o, h⟩) | h
 ·exact .inl (.inl (e _ _ h))
 ·exact .inl (.inr ⟨o, e _ _ h⟩)
 ·exact .inr h
end L2
set_option Elab.async false
set_option linter.all false
set_option maxRecDepth 100000
namespace L2
open PySem PySem.Spec PyProof.Rows
section
variable {κ : Type} [DecidableEq κ]
noncomputable def valV (kvs : List (κ × V)) (k : κ) : Option V := (kvs.find? fun kv => decide (kv.1 = k)).map (·.2)
noncomputable def putK (kvs : List (κ × V)) (k : κ) (v : V) : List (κ × V) :=
 if (kvs.any fun kv => decide (kv.1 = k)) = true then kvs.map (fun kv => if kv.1 = k then (kv.1, v) else kv) else kvs ++ [(k, v)]
noncomputable def dropK (kvs : List (κ × V)) (k : κ) : List (κ × V) := kvs.filter fun kv => decide (kv.1 ≠ k)
theorem valV_pos {p : κ × V} {r : List (κ × V)} {k : κ} (e : p.1 = k) : valV (p :: r) k = some p.2 := by simp [valV, List.find?_cons, e]
theorem valV_neg {p : κ × V} {r : List (κ × V)} {k : κ} (e : ¬ p.1 = k) : valV (p :: r) k = valV r k := by simp [valV, List.find?_cons, e]
theorem RelO.getD {o : Option V} {u : Option Value} {d : V} {d' : Value} (r : RelO o u) (rd : RelV d d') : RelV (o.getD d) (u.getD d') := by
 cases o with
 | none => cases u with
  | none => exact rd
  | some _ => exact (show False from r).elim
 | some _ => cases u with
  | none => exact (show False from r).elim
  | some _ => exact r
theorem KV.val {kvs : List (κ × V)} {vs : List (κ × Value)} (r : KV kvs vs) (k : κ) : RelO (valV kvs k) (valueAt vs k) := by
 unfold KV at r
 induction r with
 | nil => exact True.intro
 | @cons p q ps qs h t ih =>
  obtain ⟨h1, h2⟩ := h
  by_cases e : p.1 = k
  ·have e' : q.1 = k := h1.symm.trans e
   have b : valueAt (q :: qs) k = some q.2 := by simp [valueAt, List.find?_cons, e']
   rw [valV_pos e, b]; exact h2
  ·have e' : ¬ q.1 = k := fun z => e (h1.trans z)
   have b : valueAt (q :: qs) k = valueAt qs k := by simp [valueAt, List.find?_cons, e']
   rw [valV_neg e, b]; exact ih
theorem KV.any {kvs : List (κ × V)} {vs : List (κ × Value)} (r : KV kvs vs) (k : κ) : (kvs.any fun kv => decide (kv.1 = k)) = vs.any fun kv => decide (kv.1 = k) := by
 unfold KV at r
 induction r with
 | nil => rfl
 | cons h t ih => rw [List.any_cons, List.any_cons, ih, h.1]
theorem KV.drop {kvs : List (κ × V)} {vs : List (κ × Value)} (r : KV kvs vs) (k : κ) : KV (dropK kvs k) (without vs k) := by
 unfold KV at r ⊢
 unfold dropK without
 induction r with
 | nil => exact .nil
 | @cons p q ps qs h t ih =>
  obtain ⟨h1, h2⟩ := h
  rw [List.filter_cons, List.filter_cons]
  by_cases e : p.1 = k
  ·have a : ¬ decide (p.1 ≠ k) = true := by simp [e]
   have b : ¬ decide (q.1 ≠ k) = true := by simp [h1.symm.trans e]
   rw [if_neg a, if_neg b]; exact ih
  ·have e' : ¬ q.1 = k := fun z => e (h1.trans z)
   have a : decide (p.1 ≠ k) = true := by simp [e]
   have b : decide (q.1 ≠ k) = true := by simp [e']
   rw [if_pos a, if_pos b]; exact .cons ⟨h1, h2⟩ ih
theorem KV.length {kvs : List (κ × V)} {vs : List (κ × Value)} (r : KV kvs vs) : kvs.length = vs.length := Paired.length r
end
noncomputable abbrev KT (H : Hp) : List (List Key × V) → List (List Key × Addr × Value) → Prop := Paired fun p q => p.1 = q.1 ∧ H q.2.1 = some (.tup (p.1.map kV)) ∧ RelV p.2 q.2.2
theorem KT.val {H : Hp} {kvs : List (List Key × V)} {xs : List (List Key × Addr × Value)} (r : KT H kvs xs) (k : List Key) : RelO (valV kvs k) ((atKey xs k).map (·.2)) := by
 induction r with
 | nil => exact True.intro
 | @cons p q ps qs h t ih =>
  obtain ⟨h1, _, h2⟩ := h
  by_cases e : p.1 = k
  ·have e' : q.1 = k := h1.symm.trans e
   have b : atKey (q :: qs) k = some q.2 := by simp [atKey, List.find?_cons, e']
   rw [valV_pos e, b]; exact h2
  ·have e' : ¬ q.1 = k := fun z => e (h1.trans z)
   have b : atKey (q :: qs) k = atKey qs k := by simp [atKey, List.find?_cons, e']
   rw [valV_neg e, b]; exact ih
theorem KT.keeps {H H' : Hp} {kvs : List (List Key × V)} {xs : List (List Key × Addr × Value)} (r : KT H kvs xs) (ht : ∀ b ys, H b = some (.tup ys) → H' b = some (.tup ys)) : KT H' kvs xs :=
 Paired.mapP r fun _ _ z => ⟨z.1, ht _ _ z.2.1, z.2.2⟩
noncomputable def DGet (H : Hp) (a : Addr) (y : V) (r : Option V) : Prop :=
 (∃ kvs k, Rd H a (.dK kvs) ∧ y = kV k ∧ r = valV kvs k) ∨ ∃ kvs k b, Rd H a (.dT kvs) ∧ y = .ref b ∧ H b = some (.tup (k.map kV)) ∧ r = valV kvs k
noncomputable def DPut (H : Hp) (a : Addr) (y v : V) (H' : Hp) : Prop :=
 (∃ kvs k, H a = some (.dK kvs) ∧ y = kV k ∧ kvs.length < sizeLine ∧ H' = upd H a (.dK (putK kvs k v))) ∨
 ∃ kvs k b, H a = some (.dT kvs) ∧ y = .ref b ∧ H b = some (.tup (k.map kV)) ∧ kvs.length < sizeLine ∧ H' = upd H a (.dT (putK kvs k v))
theorem DGet.k {H : Hp} {a : Addr} {kvs : List (Key × V)} {k : Key} (e : H a = some (.dK kvs)) : DGet H a (kV k) (valV kvs k) := .inl ⟨kvs, k, .inl e, rfl, rfl⟩
theorem DGet.t {H : Hp} {a b : Addr} {kvs : List (List Key × V)} {k : List Key} (e : H a = some (.dT kvs)) (eb : H b = some (.tup (k.map kV))) : DGet H a (.ref b) (valV kvs k) := .inr ⟨kvs, k, b, .inl e, rfl, eb, rfl⟩
theorem DPut.k {H : Hp} {a : Addr} {kvs : List (Key × V)} {k : Key} {v : V} (e : H a = some (.dK kvs)) (hl : kvs.length < sizeLine) : DPut H a (kV k) v (upd H a (.dK (putK kvs k v))) := .inl ⟨kvs, k, e, rfl, hl, rfl⟩
theorem DPut.t {H : Hp} {a b : Addr} {kvs : List (List Key × V)} {k : List Key} {v : V} (e : H a = some (.dT kvs)) (eb : H b = some (.tup (k.map kV))) (hl : kvs.length < sizeLine) :
  DPut H a (.ref b) v (upd H a (.dT (putK kvs k v))) := .inr ⟨kvs, k, b, e, rfl, eb, hl, rfl⟩
noncomputable def tDNewK : TE := fun _ H Q => ∀ p, H p = none → Q (.ref p) (upd H p (.dK []))
noncomputable def tDNewT : TE := fun _ H Q => ∀ p, H p = none → Q (.ref p) (upd H p (.dT []))
noncomputable def tPairs : List (TE × TE) → St → Hp → (List (V × V) → Hp → Prop) → Prop
 | [], _, H, Q => Q [] H
 | (tk, tv) :: r, σ, H, Q => tk σ H fun x H1 => tv σ H1 fun y H2 => tPairs r σ H2 fun ps H3 => Q ((x, y) :: ps) H3
noncomputable def mergeK (kvs more : List (Key × V)) : List (Key × V) := more.foldl (fun acc kv => putK acc kv.1 kv.2) kvs
noncomputable def tDisp (trs : List (TE × TE)) : TE := fun σ H Q => ∀ p, H p = none → tPairs trs σ (upd H p (.dK [])) fun ps H2 => H2 p = some (.dK []) ∧ ∃ kvs : List (Key × V), ps = kvs.map (fun kv => (kV kv.1, kv.2)) ∧ kvs.length ≤ 15 ∧ Q (.ref p) (upd H2 p (.dK (mergeK [] kvs)))
structure M1 (X : Cx) (o : Expr) (m : Str) (apos : Pos) (e : Expr) (cpos : Pos) : Prop where
 base : attributeBase o m X.env (eval o X.env) = eval o X.env
 few : ((backTo cpos (starEach [e] X.env)).all (fun x => !x.1) && (backToKw cpos (keywordEach [] X.env)).all (fun x => x.1.isSome)
  && decide (([e] : List Expr).length + ([] : List Keyword).length + (if ([] : List Keyword).isEmpty then 0 else 1) < 30)) = true
 line : (apos.endLine == cpos.line) = true
 trees : backTo cpos (starEach [e] X.env) = [(false, eval e X.env)]
structure M2 (X : Cx) (o : Expr) (m : Str) (apos : Pos) (e f : Expr) (cpos : Pos) : Prop where
 base : attributeBase o m X.env (eval o X.env) = eval o X.env
 few : ((backTo cpos (starEach [e, f] X.env)).all (fun x => !x.1) && (backToKw cpos (keywordEach [] X.env)).all (fun x => x.1.isSome)
  && decide (([e, f] : List Expr).length + ([] : List Keyword).length + (if ([] : List Keyword).isEmpty then 0 else 1) < 30)) = true
 line : (apos.endLine == cpos.line) = true
 trees : backTo cpos (starEach [e, f] X.env) = [(false, eval e X.env), (false, eval f X.env)]
end L2
set_option Elab.async false
set_option linter.all false
set_option maxRecDepth 100000
namespace L2
open PySem PySem.Spec PyProof.Rows
noncomputable def Bd (n : Nat) (i : Int) : Prop := i.natAbs < 2 ^ n
theorem Bd.mono {m n : Nat} {i : Int} (h : Bd m i) (hm : m ≤ n) : Bd n i := Nat.lt_of_lt_of_le h (Nat.pow_le_pow_right (by decide) hm)
theorem pow_add_le (m n : Nat) : 2 ^ m + 2 ^ n ≤ 2 ^ (m + n + 1) := by
 have h1 : 2 ^ m ≤ 2 ^ (m + n) := Nat.pow_le_pow_right (by decide) (Nat.le_add_right _ _)
 have h2 : 2 ^ n ≤ 2 ^ (m + n) := Nat.pow_le_pow_right (by decide) (Nat.le_add_left _ _)
 have h3 : 2 ^ (m + n + 1) = 2 ^ (m + n) * 2 := Nat.pow_succ _ _
 omega
theorem Bd.sub {m n : Nat} {i j : Int} (h : Bd m i) (k : Bd n j) : Bd (m + n + 1) (i - j) := by
 have e := pow_add_le m n
 unfold Bd at *
 omega
theorem Bd.neg {m : Nat} {i : Int} (h : Bd m i) : Bd m (-i) := by
 unfold Bd at *
 omega
theorem Bd.abs {m : Nat} {i : Int} (h : Bd m i) : Bd m (if i < 0 then -i else i) := by
 split
 ·exact h.neg
 ·exact h
theorem Bd.of_le {n : Nat} {i : Int} (b : Int) (h1 : -b ≤ i) (h2 : i ≤ b) (hb : b.natAbs < 2 ^ n) : Bd n i := by
 unfold Bd
 omega
theorem Bd.bits {n : Nat} {i : Int} (h : Bd n i) : Builtin.Int.intBits i ≤ n := by
 unfold Bd at h
 unfold Builtin.Int.intBits
 split
 ·exact Nat.zero_le _
 ·rename_i z
  have : i.natAbs ≠ 0 := by
   intro e
   apply z
   have : i = 0 := by omega
   subst this
   rfl
  have := (Nat.log2_lt this).mpr h
  omega
theorem Bd.log {n : Nat} {i : Int} (h : Bd n i) (h0 : 0 < n) : i.natAbs.log2 < n := by
 by_cases e : i.natAbs = 0
 ·rw [e]
  exact Nat.lt_of_le_of_lt (by decide) h0
 ·exact (Nat.log2_lt e).mpr h
section
variable {X : Cx}
noncomputable def CMulA (i j : Int) : Prop := CMul i j ∨ (Bd 100000 i ∧ Bd 100000 j)
theorem CMulA.ok {i j : Int} (h : CMulA i j) : IntMulOk i j := by
 rcases h with h | ⟨h1, h2⟩
 ·exact h.ok
 ·exact .of_bits (Nat.le_trans h1.bits (by decide)) (Nat.le_trans h2.bits (by decide))
theorem op_fdivB : OpR X (binaryOp .FloorDiv) (rI (fun _ j => j ≠ 0 ∧ Bd 9000 j) fun i j => .int (i.fdiv j)) := opI fun _ _ _ _ _ _ _ hc q => floordiv_int hc.1 q (.inl (PyProof.noPylong_of_log2 (hc.2.log (by decide))))
theorem op_powB : OpR X (binaryOp .Pow) (rI (fun i j => 0 ≤ j ∧ j ≤ 100 ∧ Bd 100000 i) fun i j => .int (i ^ j.toNat)) := opI fun i j _ _ _ _ _ hc q => by
 obtain ⟨h1, h2, h3⟩ := hc
 refine pow_int h1 ?_ q
 have hb : Builtin.Int.intBits i ≤ 100000 := h3.bits
 have e : ((Builtin.Int.intBits i : Nat) : Int) * j ≤ 100000 * 100 := Int.mul_le_mul (by omega) h2 h1 (by decide)
 exact Int.le_trans e (by decide)
end
end L2
set_option Elab.async false
set_option linter.all false
set_option maxRecDepth 100000
set_option Elab.async false
set_option linter.all false
set_option maxRecDepth 100000
namespace L2
open PySem PySem.Spec PyProof.Rows
noncomputable def frV (σ : St) (js : List Nat) : St := js.map fun j => (σ[j]?).join
noncomputable def stLC (σ : St) (k : Nat) (js : List Nat) : St := List.replicate k none ++ frV σ js
end L2
set_option Elab.async false
set_option linter.all false
set_option maxRecDepth 100000
namespace L2
open PySem PySem.Spec PyProof.Rows
noncomputable def tYes : TT := fun _ H Q => Q true H
end L2
set_option Elab.async false
set_option linter.all false
set_option maxRecDepth 100000
namespace L2
open PySem PySem.Spec PyProof.Rows
section
variable {X : Cx}
theorem vals_bl : ∀ {bs : List Bool} {us : List Value}, Vals (bs.map V.bl) us → us = bs.map Value.bool
 | [], _, .nil => rfl
 | b :: r, _, .cons h t => by
  rw [show _ = Value.bool b from h, vals_bl t]
  rfl
end
mutual
inductive Rdy (K : PySem.W.Frag) (H : Hp) : V → PyData → Prop
 | non : Rdy K H .non .none
 | bl (b : Bool) : Rdy K H (.bl b) (.bool b)
 | int (i : Int) : Rdy K H (.int i) (.int i)
 | str (x : Str) : Rdy K H (.str x) (.str x)
 | tup {a : Addr} {xs : List V} {ds : List PyData} : SqT K H a xs → RdyAll K H xs ds → Rdy K H (.ref a) (.tuple ds)
 | lst {a : Addr} {xs : List V} {ds : List PyData} : SqL K H a xs → RdyAll K H xs ds → Rdy K H (.ref a) (.list ds)
inductive RdyAll (K : PySem.W.Frag) (H : Hp) : List V → List PyData → Prop
 | nil : RdyAll K H [] []
 | cons {x : V} {xs : List V} {d : PyData} {ds : List PyData} : Rdy K H x d → RdyAll K H xs ds → RdyAll K H (x :: xs) (d :: ds)
end
section
variable {X : Cx} {pins : List (Addr × Obj)} {σ : St} {H : Hp} {s : Shared}
mutual
theorem Rdy.reads (I : Inv X pins σ H s) : ∀ {x : V} {d : PyData}, Rdy X.K H x d → ∀ {u : Value}, RelV x u → ∃ as, Reads s.heap u d as
 | _, _, .non, u, r => by cases (show u = Value.none from r); exact ⟨_, .none⟩
 | _, _, .bl b, u, r => by cases (show u = Value.bool b from r); exact ⟨_, .bool b⟩
 | _, _, .int i, u, r => by obtain ⟨t, rfl⟩ := (show ∃ t, u = Value.int i t from r); exact ⟨_, .int i t⟩
 | _, _, .str x, u, r => by obtain ⟨t, rfl⟩ := (show ∃ t, u = Value.str x t from r); exact ⟨_, .str x t⟩
 | _, _, @Rdy.tup _ _ a xs ds hq ha, u, r => by
  cases (show u = Value.ref a from r)
  obtain ⟨its, rv, ⟨o, ho, hc, n, hd⟩, hz⟩ := I.tuple hq
  obtain ⟨as, ra⟩ := RdyAll.reads I ha rv
  exact ⟨_, .tuple ho hc hd (by simpa using ra)⟩
 | _, _, @Rdy.lst _ _ a xs ds hq ha, u, r => by
  cases (show u = Value.ref a from r)
  obtain ⟨its, rv, ⟨o, n, ho, hc, _, hd⟩, hz⟩ := I.list hq
  obtain ⟨as, ra⟩ := RdyAll.reads I ha rv
  exact ⟨_, .list ho hc hd (by simpa using ra)⟩
theorem RdyAll.reads (I : Inv X pins σ H s) : ∀ {xs : List V} {ds : List PyData}, RdyAll X.K H xs ds → ∀ {us : List Value}, Vals xs us → ∃ as, ReadsAll s.heap us ds as
 | _, _, .nil, _, .nil => ⟨_, .nil⟩
 | _, _, .cons h t, _, .cons r rs => by
  obtain ⟨as, h1⟩ := Rdy.reads I h r
  obtain ⟨bs, h2⟩ := RdyAll.reads I t rs
  exact ⟨_, .cons h1 h2⟩
end
end
noncomputable def Ext (H H' : Hp) : Prop := ∀ b o, H b = some o → H' b = some o
theorem Ext.refl (H : Hp) : Ext H H := fun _ _ h => h
theorem Ext.trans {H H1 H2 : Hp} (a : Ext H H1) (b : Ext H1 H2) : Ext H H2 := fun c o h => b c o (a c o h)
theorem Ext.upd {H : Hp} {p : Addr} {o : HO} (h : H p = none) : Ext H (upd H p o) := fun b u e => by rw [upd_ne (ne_of_none e h)]; exact e
theorem Ext.then {H H1 : Hp} {p : Addr} {o : HO} (a : Ext H H1) (h : H1 p = none) : Ext H (L2.upd H1 p o) := a.trans (Ext.upd h)
theorem Ext.none {H H' : Hp} (e : Ext H H') {l : Addr} (h : H' l = .none) : H l = .none := by
 cases q : H l with
 | none => rfl
 | some o => rw [e l o q] at h; cases h
theorem Ext.sqT {K : PySem.W.Frag} {H H' : Hp} {a : Addr} {xs : List V} (e : Ext H H') (h : SqT K H a xs) : SqT K H' a xs := by
 rcases h with (h | ⟨o, h⟩) | h
 ·exact .inl (.inl (e _ _ h))
 ·exact .inl (.inr ⟨o, e _ _ h⟩)
 ·exact .inr h
theorem Ext.sqL {K : PySem.W.Frag} {H H' : Hp} {a : Addr} {xs : List V} (e : Ext H H') (h : SqL K H a xs) : SqL K H' a xs := by
 rcases h with (h | ⟨o, h⟩) | h
 ·exact .inl (.inl (e _ _ h))
 ·exact .inl (.inr ⟨o, e _ _ h⟩)
 ·exact .inr h
mutual
theorem Rdy.ext {K : PySem.W.Frag} {H H' : Hp} (e : Ext H H') : ∀ {x : V} {d : PyData}, Rdy K H x d → Rdy K H' x d
 | _, _, .non => .non
 | _, _, .bl b => .bl b
 | _, _, .int b => .int b
 | _, _, .str b => .str b
 | _, _, .tup h t => .tup (e.sqT h) (RdyAll.ext e t)
 | _, _, .lst h t => .lst (e.sqL h) (RdyAll.ext e t)
theorem RdyAll.ext {K : PySem.W.Frag} {H H' : Hp} (e : Ext H H') : ∀ {xs : List V} {ds : List PyData}, RdyAll K H xs ds → RdyAll K H' xs ds
 | _, _, .nil => .nil
 | _, _, .cons h t => .cons (Rdy.ext e h) (RdyAll.ext e t)
end
end L2
set_option Elab.async false
set_option linter.all false
set_option maxRecDepth 100000
namespace L2
open PySem PySem.Spec PyProof.Rows
structure FnB (P : Program) (w : World) (K : PySem.W.Frag) (mg : Str → Option Value) (base : Heap) (CX : CXT) (k : Nat) (x : Str) (ps : List Str) (sp : Sp) : Prop where
 ex : ∃ f fd, FnOk P w K mg base CX k f fd ps sp ∧ mg x = some (.ref f) ∧ PySem.W.keepIn K (.ref f) = true ∧ Binds K fd ps []
section
variable {X : Cx} {CX : CXT} {k : Nat} {ps : List Str} {sp : Sp} {E : XK} {x : Str} {p pos : Pos} {e : Expr} {es : List Expr} {t : TA}
theorem pe_fn (F : FnB X.prog X.w X.K X.mg X.base CX k x ps sp) (hr : Room k X.A) (hg : Gl X x) (hx : Passes CX X E)
  (ha : PA X (e :: es) t) (hdb : (x == ("__debug__" : Str)) = false := by decide) (he : starEach (e :: es) X.env = (false, eval e X.env) :: starEach es X.env := by rfl) (hpl : (backTo pos (starEach es X.env)).any (·.1) = false := by rfl) :
  PE X (.Call (.Name x p) (e :: es) [] pos) (tCall sp [] E t) := by
 obtain ⟨f, fd, h1, h2, h3, h4⟩ := F.ex
 exact pe_call h1 hr hg h2 h3 h4 .nil hx ha hdb he hpl
end
theorem FnB.of {P : Program} {w : World} {K : PySem.W.Frag} {mg : Str → Option Value} {base : Heap} {CX : CXT} {k : Nat} {x : Str} {ps : List Str} {sp : Sp} {f : Addr} {fd : FuncData} (h : FnOk P w K mg base CX k f fd ps sp) (m : mg x = some (.ref f)) (kp : PySem.W.keepIn K (.ref f) = true) (b : Binds K fd ps []) : FnB P w K mg base CX k x ps sp := ⟨f, fd, h, m, kp, b⟩
noncomputable def optK {α : Type} (o : Option α) (k : α → Prop) : Prop := match o with | some v => k v | none => False
noncomputable def seqOf (o : Option HO) : Option (List V) := match o with
 | some (.lst xs) => some xs
 | some (.tup xs) => some xs
 | _ => none
theorem seqOf_l (xs : List V) : seqOf (some (.lst xs)) = some xs := rfl
theorem seqOf_t (xs : List V) : seqOf (some (.tup xs)) = some xs := rfl
noncomputable def ixF : R2 := fun x y H Q => match x, y with
 | .ref p, .int i => optK (seqOf (H p)) fun xs => optK (atI xs i) fun v => Q v H
 | _, _ => False
theorem atI_0 {α : Type} (a : α) (l : List α) : atI (a :: l) 0 = some a := atI_nat (j := 0) rfl
theorem atI_1 {α : Type} (a b : α) (l : List α) : atI (a :: b :: l) 1 = some b := atI_nat (j := 1) rfl
theorem atI_2 {α : Type} (a b c : α) (l : List α) : atI (a :: b :: c :: l) 2 = some c := atI_nat (j := 2) rfl
theorem atI_3 {α : Type} (a b c d : α) (l : List α) : atI (a :: b :: c :: d :: l) 3 = some d := atI_nat (j := 3) rfl
theorem optK_some {α : Type} (a : α) (k : α → Prop) : optK (some a) k = k a := rfl
noncomputable def setF : V → V → V → Hp → (Hp → Prop) → Prop := fun o i v H Q => match o, i with
 | .ref p, .int k => (match H p with
  | some (.lst xs) => optK (ixN xs.length k) fun j => Q (upd H p (.lst (xs.set j v)))
  | _ => False)
 | _, _ => False
end L2
namespace L2
open PySem PySem.Spec PyProof.Rows
section
variable {X : Cx} {st : Stmt} {rest : List Stmt} {t u : TS}
noncomputable def tCut (t u : TS) : TS := fun D σ H => ∃ Pv : St → Hp → Prop, t { D with nx := Pv } σ H ∧ ∀ σ H, Pv σ H → u D σ H
theorem pss_cut (h1 : PS X st t) (h2 : PSs X rest u) : PSs X (st :: rest) (tCut t u) := by
 intro pins s σ H D I h
 obtain ⟨Pv, ha, hb⟩ := h
 refine wpAny_execs_cons (thn (h1 pins s σ H { D with nx := Pv } I ha) fun f s1 q => ?_)
 cases f with
 | next =>
  obtain ⟨σ', H', I', q⟩ := q
  exact h2 pins s1 σ' H' D I' (hb σ' H' q)
 | ret v => exact q
 | brk => exact q
 | cont => exact q
end
theorem CMulA.of {m n : Nat} {i j : Int} (h : Bd m i) (k : Bd n j) (hm : m ≤ 100000) (hn : n ≤ 100000) : CMulA i j := .inr ⟨h.mono hm, k.mono hn⟩
theorem CMulA.left {i j : Int} (h1 : -(2 ^ 64) < i) (h2 : i < 2 ^ 64) : CMulA i j := .inl (.inl ⟨h1, h2⟩)
noncomputable def Feed (H : Hp) (p : Addr) : Prop := ∃ a b c : Int, H p = some (.lst [.int a, .int b, .int c])
structure FX (p : Addr) (H H' : Hp) : Prop where
 feed : Feed H' p
 keep : ∀ b o, b ≠ p → H b = some o → H' b = some o
theorem FX.trans {p : Addr} {H H1 H2 : Hp} (a : FX p H H1) (b : FX p H1 H2) : FX p H H2 := ⟨b.feed, fun c o hc h => b.keep c o hc (a.keep c o hc h)⟩
theorem FX.refl {p : Addr} {H : Hp} (h : Feed H p) : FX p H H := ⟨h, fun _ _ _ h => h⟩
theorem FX.upd {p q : Addr} {H H1 : Hp} {o : HO} (a : FX p H H1) (h : H1 q = none) : FX p H (L2.upd H1 q o) := by
 obtain ⟨x, y, z, e⟩ := a.feed
 exact ⟨⟨x, y, z, by rw [upd_ne (ne_of_none e h)]; exact e⟩, fun b u hb hu => by rw [upd_ne (ne_of_none (a.keep b u hb hu) h)]; exact a.keep b u hb hu⟩
theorem FX.set {p q : Addr} {H H1 : Hp} {o : HO} (a : FX p H H1) (hn : H q = none) (hq : q ≠ p) : FX p H (L2.upd H1 q o) := by
 obtain ⟨x, y, z, e⟩ := a.feed
 refine ⟨⟨x, y, z, by rw [upd_ne (Ne.symm hq)]; exact e⟩, fun b u hb hu => ?_⟩
 rw [upd_ne (ne_of_none hu hn)]
 exact a.keep b u hb hu
theorem FX.ext {p : Addr} {H H' : Hp} {o : HO} (h : H p = none) (a : FX p (L2.upd H p o) H') : Ext H H' := fun b u e => a.keep b u (ne_of_none e h) (by rw [upd_ne (ne_of_none e h)]; exact e)
theorem Feed.upd {p q : Addr} {H : Hp} {o : HO} (a : Feed H p) (h : H q = none) : Feed (L2.upd H q o) p := by
 obtain ⟨x, y, z, e⟩ := a
 exact ⟨x, y, z, by rw [upd_ne (ne_of_none e h)]; exact e⟩
theorem upd_f {H : Hp} {q b : Addr} {o u : HO} (h : H q = none) (e : H b = some u) : upd H q o b = some u := by rw [upd_ne (ne_of_none e h)]; exact e
end L2
namespace L2
open PySem PySem.Spec PyProof.Rows
theorem Bd.lit {n : Nat} {i : Int} (h : i.natAbs < 2 ^ 64) (hn : 64 ≤ n) : Bd n i := Bd.mono (m := 64) h hn
theorem bd10 : Bd 100000 10 = True := eq_true (Bd.lit (by decide) (by decide))
theorem bd64 : Bd 9000 64 = True := eq_true (Bd.lit (by decide) (by decide))
theorem bd2 : Bd 9000 2 = True := eq_true (Bd.lit (by decide) (by decide))
theorem bd4 : Bd 9000 4 = True := eq_true (Bd.lit (by decide) (by decide))
theorem bd3 : Bd 9000 3 = True := eq_true (Bd.lit (by decide) (by decide))
theorem CMulA.mod {x m y : Int} (h0 : 0 < m) (h : m ≤ 2 ^ 64) : CMulA (x % m) y := by
 have h1 := Int.emod_nonneg x (by omega : m ≠ 0)
 have h2 := Int.emod_lt_of_pos x h0
 exact .left (by omega) (by omega)
theorem ixN_3_0 : ixN 3 0 = some 0 := rfl
theorem ixN_3_1 : ixN 3 1 = some 1 := rfl
theorem ixN_3_2 : ixN 3 2 = some 2 := rfl
theorem ixN_2_0 : ixN 2 0 = some 0 := rfl
theorem ixN_2_1 : ixN 2 1 = some 1 := rfl
theorem ixN_4_0 : ixN 4 0 = some 0 := rfl
theorem ixN_4_1 : ixN 4 1 = some 1 := rfl
theorem ixN_4_2 : ixN 4 2 = some 2 := rfl
theorem ixN_4_3 : ixN 4 3 = some 3 := rfl
end L2
namespace L2
open PySem PySem.Spec PyProof.Rows
section
variable {g : TG} {tt : TT} {te tl : TE} {ta : TA} {k : Nat} {js : List Nat} {σ : St} {Q : VK} {H : Hp} {tb : TS} {Dn : Ends} {K : PySem.W.Frag} {a : Addr} {xs : List V}
theorem tfor_range (n : Nat) (ha : ∀ R : List V → Hp → Prop, R [.int n] H → ta σ H R) (hn : n < 1000000) (Pv : Nat → St → Hp → Prop) (h0 : Pv 0 σ H)
  (hs : ∀ i σ H, i < n → Pv i σ H → g (.int (0 + (i : Int))) σ H fun σ2 H2 => tb { Dn with nx := Pv (i + 1), ct := Pv (i + 1), bk := Dn.nx } σ2 H2) (hd : ∀ σ H, Pv n σ H → Dn.nx σ H) : tFor (iRng1 ta) g tb Dn σ H :=
 ha _ ⟨n, rfl, by omega, by omega, for_range (lo := 0) (n := (n : Int).toNat) Pv h0 (fun i σ H hi p => hs i σ H (by simpa using hi) p) (fun σ H p => hd σ H (by simpa using p))⟩
end
end L2
namespace L2
open PySem PySem.Spec PyProof.Rows
section
variable {X : Cx} {K : PySem.W.Frag}
noncomputable def rLenK (K : PySem.W.Frag) : List V → Hp → VK → Prop := fun xs H Q => ∃ p ys, xs = [.ref p] ∧ (SqL K H p ys ∨ SqT K H p ys) ∧ Q (.int ys.length) H
theorem sl_listK (hK : X.K = K) : SlR X (rSlL K) := by subst hK; exact sl_list
theorem pi_listK {tg l : Expr} {tl : TE} (hK : X.K = K) (hl : PE X l tl) : PI X tg l (iList K tl) := by subst hK; exact pi_list hl
end
end L2
namespace L2
open PySem
theorem Feed.ne {p t : Addr} {H : Hp} (h : Feed H p) (ht : H t = none) : t ≠ p := by
 obtain ⟨a, b, c, e⟩ := h
 exact (ne_of_none e ht).symm
end L2
set_option Elab.async false
set_option linter.all false
set_option maxRecDepth 100000
namespace L2
open PySem PySem.Spec PyProof.Rows
noncomputable def lstOf (o : Option HO) : Option (List V) := match o with
 | some (.lst xs) => some xs
 | _ => none
theorem lstOf_l (xs : List V) : lstOf (some (.lst xs)) = some xs := rfl
theorem lstOf_eq {o : Option HO} {xs : List V} (h : lstOf o = some xs) : o = some (.lst xs) := by
 cases o with
 | none => cases h
 | some o =>
  cases o with
  | lst ys => rw [show ys = xs from Option.some.inj h]
  | _ => cases h
theorem optK_elim {α : Type} {o : Option α} {k : α → Prop} (h : optK o k) : ∃ v, o = some v ∧ k v := by
 unfold optK at h
 split at h
 ·exact ⟨_, rfl, h⟩
 ·exact h.elim
section
variable {X : Cx} {e : Expr}
noncomputable def tUp (t : TE) : TE := fun σ H Q => ∃ R : VK, t σ H R ∧ ∀ x H1, R x H1 → Q x H1
theorem PE.up {t : TE} (h : PE X e t) : PE X e (tUp t) := fun pins s σ H Q I ⟨R, hw, hq⟩ => thn (h pins s σ H R I hw) fun v s1 ⟨x, H1, I1, r1, q1⟩ => ⟨x, H1, I1, r1, hq x H1 q1⟩
end
theorem small6 {n : Nat} (h : n < 1000000) : n < sizeLine := Nat.lt_trans h (by decide)
noncomputable def appR : V → List V → Hp → VK → Prop := fun x vs H Q => match x, vs with
 | .ref l, [y] => optK (lstOf (H l)) fun xs => xs.length < 1000000 ∧ Q .non (upd H l (.lst (xs ++ [y])))
 | _, _ => False
noncomputable def popR : V → List V → Hp → VK → Prop := fun x vs H Q => match x, vs with
 | .ref l, [] => optK (lstOf (H l)) fun xs => optK xs.getLast? fun y => Q y (upd H l (.lst xs.dropLast))
 | _, _ => False
section
variable {X : Cx}
noncomputable def tML (r : V → List V → Hp → VK → Prop) (to : TE) (t : TA) : TE := fun σ H Q => to σ H fun x H1 => match x with
 | .ref l => (lstOf (H1 l)).isSome = true ∧ t σ H1 fun vs H2 => r x vs H2 Q
 | _ => False
end
section
variable {X : Cx} {K : PySem.W.Frag} {a b : Expr} {ta tb : TE} {pos : Pos}
noncomputable def catF : R2 := fun x y H Q => match x, y with
 | .ref a, .ref b => optK (lstOf (H a)) fun xs => optK (lstOf (H b)) fun ys => xs.length + ys.length < 1000000 ∧ ∀ p, H p = none → Q (.ref p) (upd H p (.lst (xs ++ ys)))
 | _, _ => False
theorem op_catF : OpR X (binaryOp .Add) catF := by
 intro pins s σ H x y v u Q I rx ry h
 unfold catF at h
 split at h
 ·rename_i p q
  obtain ⟨xs, e, h⟩ := optK_elim h
  obtain ⟨ys, e', hz, k⟩ := optK_elim h
  exact op_cat pins s σ H _ _ v u Q I rx ry ⟨p, q, xs, ys, rfl, rfl, lstOf_eq e, lstOf_eq e', Nat.le_of_lt (small6 hz), k⟩
 ·exact h.elim
noncomputable def listF : List V → Hp → VK → Prop := fun vs H Q => match vs with
 | [.ref p] => optK (seqOf (H p)) fun ys => ∀ l, H l = none → Q (.ref l) (upd H l (.lst ys))
 | _ => False
noncomputable def lenF : List V → Hp → VK → Prop := fun vs H Q => match vs with
 | [.ref p] => optK (seqOf (H p)) fun ys => Q (.int ys.length) H
 | _ => False
noncomputable def slF : V → Option Int → Option Int → Hp → VK → Prop := fun x lo hi H Q => match x with
 | .ref a => optK (lstOf (H a)) fun xs => ∀ p, H p = none → Q (.ref p) (upd H p (.lst (cutV xs lo hi)))
 | _ => False
noncomputable def tyN (H : Hp) : V → Option String
 | .non => some "NoneType"
 | .bl _ => some "bool"
 | .int _ => some "int"
 | .str _ => some "str"
 | .ref a => (match H a with
  | some (.lst _) => some "list"
  | some (.tup _) => some "tuple"
  | _ => none)
 | _ => none
noncomputable def isiT : String → String → Option Bool
 | "int", "int" => some true | "int", "bool" => some false | "bool", "int" => some true | "bool", "bool" => some true
 | "tuple", "tuple" => some true | "list", "list" => some true | "list", "tuple" => some false | "tuple", "list" => some false | _, _ => none
noncomputable def isiF : List V → Hp → VK → Prop := fun vs H Q => match vs with
 | [x, .ty T] => optK (tyN H x) fun n => optK (isiT n T) fun b => Q (.bl b) H
 | _ => False
end
section
variable {X : Cx} {o e : Expr} {to : TE} {t : TA} {apos cpos : Pos}
noncomputable def tML0 (r : V → List V → Hp → VK → Prop) (to : TE) : TE := fun σ H Q => to σ H fun x H1 => match x with
 | .ref l => (lstOf (H1 l)).isSome = true ∧ r x [] H1 Q
 | _ => False
end
theorem isiT_1 : isiT "int" "int" = some true := rfl
theorem isiT_2 : isiT "int" "bool" = some false := rfl
theorem isiT_3 : isiT "bool" "int" = some true := rfl
theorem isiT_4 : isiT "bool" "bool" = some true := rfl
theorem isiT_5 : isiT "tuple" "tuple" = some true := rfl
theorem isiT_6 : isiT "list" "list" = some true := rfl
theorem isiT_7 : isiT "list" "tuple" = some false := rfl
end L2
namespace L2
open PySem
theorem Ext.set {H H2 : Hp} {D : Addr} {o : HO} (x : Ext H H2) (hD : H D = .none) : Ext H (L2.upd H2 D o) := fun b u e => by rw [upd_ne (ne_of_none e hD)]; exact x b u e
theorem FX.more {p : Addr} {H H1 H2 : Hp} (f : FX p H H1) (x : Ext H1 H2) : FX p H H2 := by
 obtain ⟨a, b, c, e⟩ := f.feed
 exact ⟨⟨a, b, c, x _ _ e⟩, fun b u hb e => x _ _ (f.keep b u hb e)⟩
end L2
namespace L2
open PySem
section
variable {g : TG} {tt : TT} {te tl : TE} {ta : TA} {k : Nat} {js : List Nat} {σ : St} {Q : VK} {H : Hp} {tb : TS} {Dn : Ends} {K : PySem.W.Frag}
theorem tfor_list_up (R : VK) (h : tl σ H R)
  (hb : ∀ x H1, R x H1 → ∃ (a : Addr) (xs : List V), x = .ref a ∧ ∃ Pv : Nat → St → Hp → Prop, Pv 0 σ H1 ∧ (∀ i σ H, i ≤ xs.length → Pv i σ H → SqL K H a xs) ∧
   (∀ i x σ H, xs[i]? = some x → Pv i σ H → g x σ H fun σ2 H2 => tb { Dn with nx := Pv (i + 1), ct := Pv (i + 1), bk := Dn.nx } σ2 H2) ∧ ∀ σ H, Pv xs.length σ H → Dn.nx σ H) : tFor (iList K (tUp tl)) g tb Dn σ H := by
 refine ⟨R, h, fun x H1 q => ?_⟩
 obtain ⟨a, xs, rfl, Pv, h0, hl, hs, hd⟩ := hb x H1 q
 exact ⟨a, rfl, ⟨xs, hl 0 σ H1 (Nat.zero_le _) h0⟩, for_list (xs := xs) Pv h0 hl hs hd⟩
end
end L2
namespace L2
open PySem
noncomputable def tup3 (o : Option HO) : Option (Int × Int × Int) := match o with
 | some (.tup [.int a, .int b, .int c]) => some (a, b, c)
 | _ => none
theorem tup3_some (a b c : Int) : tup3 (some (.tup [.int a, .int b, .int c])) = some (a, b, c) := rfl
noncomputable def tup2 (o : Option HO) : Option (Int × Int) := match o with
 | some (.tup [.int a, .int b]) => some (a, b)
 | _ => none
theorem tup2_some (a b : Int) : tup2 (some (.tup [.int a, .int b])) = some (a, b) := rfl
end L2
namespace L2
open PySem
theorem Ext.fx {p : Addr} {H H1 H2 : Hp} (x : Ext H H1) (hp : H p = .none) (f : FX p H1 H2) : Ext H H2 := fun b o e => f.keep b o (ne_of_none e hp) (x b o e)
end L2
set_option Elab.async false
set_option linter.all false
set_option maxRecDepth 100000
namespace L2
open PySem PySem.Spec PyProof.Rows
structure ExcC (K : PySem.W.Frag) (C : Addr) : Prop where
 exc : PySem.W.excIn K C [.type "ValueError", .type "Exception", .type "BaseException", .type "object"] "ValueError.__new__" = true
 ga : PySem.W.findIn K (.ref C) "__getattribute__" = some (some (.builtin "BaseException.__getattribute__"))
 nog : PySem.W.findIn K (.ref C) "__getattr__" = some none
 cl : PySem.W.findIn K (.ref C) "__class__" = some (some (.builtin "object.__class__"))
 hn : PySem.W.specialIn K (.builtin "object.__class__") "__get__" = some (some (.builtin "getset_descriptor.__get__"))
 htk : PySem.W.takesIn K (.builtin "object.__class__") = some true
 isc : (PySem.W.clsIn K C).isSome = true
 sube : PySem.W.mroIn K C (.type "BaseException") = some true
 subo : PySem.W.mroIn K C (.type "object") = some true
noncomputable def ExcB (K : PySem.W.Frag) (C : Addr) : Prop :=
 PySem.W.findIn K (.ref C) "__getattribute__" = some (some (.builtin "BaseException.__getattribute__")) ∧ PySem.W.findIn K (.ref C) "__getattr__" = some none ∧
 PySem.W.findIn K (.ref C) "__class__" = some (some (.builtin "object.__class__")) ∧ PySem.W.specialIn K (.builtin "object.__class__") "__get__" = some (some (.builtin "getset_descriptor.__get__")) ∧
 PySem.W.takesIn K (.builtin "object.__class__") = some true ∧ (PySem.W.clsIn K C).isSome = true ∧ PySem.W.mroIn K C (.type "BaseException") = some true ∧ PySem.W.mroIn K C (.type "object") = some true
noncomputable def IsExc (a C : Addr) (h : Heap) : Prop := ∃ (o : Obj) (vs : Array Value), h.get? a = some o ∧ o.cls = .ref C ∧ o.data = .fields vs
section
open PySem.W PySem.Builtin PySem.Builtin.ObjectAttr PySem.Builtin.Getset_descriptor
variable {prog : Program} {w : World} {A : Around} {E : Value → Shared → Prop} {h : Heap} {g : Array GenState} {d : Drawn} {t : Nat} {os : OsState} {a : Addr} {o : Obj} {vs : Array Value} {C : Addr} {K : PySem.W.Frag}
theorem IsExc.type {M : Model} (I : IsExc a C h) : Looks M h (typeOf (.ref a)) (.ref C) := by
 obtain ⟨o, vs, h1, h2, h3⟩ := I
 exact h2 ▸ (Looks.ld h1).andThen .now
theorem looks_findD {M : Model} {x : Addr} {name : Str} {a' g' : Value} (X : K.In h) (ha : findIn K (.ref C) name = some (some a')) (hg : specialIn K a' "__get__" = some (some g')) (ht : takesIn K a' = some true) : Looks M h (find (.ref x) (.ref C) name) (.bind g' a') :=
 (looks_findIn X ha).andThen ((show Looks M h (getOf (some a')) (some g') from looks_specialIn X hg).andThen ((show Looks M h (dataDescriptor? (some a') (some g')) (some (g', a')) from (looks_takesIn X ht).andThen .now).andThen (Looks.tag .now)))
theorem class_getD {R : Result → Shared → Prop} {tp : Value} (X : K.In h) (hm : mroIn K C (.type "object") = some true) (I : IsExc a C h) (q : R (.ok (.ret (.ref C))) ⟨h, g, d, t, os⟩) :
  codeAny (model prog w) A (.call (.builtin "getset_descriptor.__get__") ⟨[.builtin "object.__class__", .ref a, tp], []⟩) R ⟨h, g, d, t, os⟩ := by
 have e0 := IsExc.type (M := model prog w) I
 have e1 := looks_mroIn (M := model prog w) X hm
 refine codeAny_call_builtin KF.slot_gs.plain KF.entry_gs ?_
 refine KF.slot_gs.check _ _ _ _ _ _ _ _ KF.type_class (KF.args_gs _ _ _) ?_
 unfold Builtin.«getset_descriptor.__get__»
 unfold descrGet
 rw [dga_obj]
 refine wpAny_bind ?_
 refine wpAny_pure ?_
 unfold descrGetter descrCheckInstance
 unfold descrNameAndClass isInstance
 simp only [KF.owner_class]
 repeat lk
 refine ⟨Code.quiet_builtin _ (by decide +kernel), ?_⟩
 refine codeAny_builtin KF.entry_class ?_
 unfold Builtin.«object.__class__»
 unfold shownTypeOf
 repeat lk
 exact q
theorem class_entry_exc {tk : Tok} {Q : Fin → Shared → Prop} (X : K.In h) (T : ExcB K C) (I : IsExc a C h) (hq : Q (.done (.ret (.ref C))) ⟨h, g, d, t, os⟩) :
  wpAny (model prog w) A (Builtin.«object.__getattribute__» ⟨[.ref a, .str "__class__" tk], []⟩) Q E ⟨h, g, d, t, os⟩ := by
 have L0 := IsExc.type (M := model prog w) I
 have L1 := looks_findD (M := model prog w) (x := a) X T.2.2.1 T.2.2.2.1 T.2.2.2.2.1
 unfold Builtin.«object.__getattribute__»
 repeat lk
 refine wpAny_run (codeAny_mono (class_getD (R := fun r s' => r = .ok (.ret (.ref C)) ∧ s' = ⟨h, g, d, t, os⟩) X T.2.2.2.2.2.2.2 I ⟨rfl, rfl⟩) fun r s' hr => ?_)
 obtain ⟨rfl, rfl⟩ := hr
 exact wpAny_pure (wpAny_pure hq)
theorem check_ga_exc {M : Model} {nameV : Value} {Q : Unit → Shared → Prop} (X : K.In h) (T : ExcB K C) (I : IsExc a C h) (hq : Q () ⟨h, g, d, t, os⟩) : wpAny M A (checkBuiltinCall "BaseException.__getattribute__" ⟨[.ref a, nameV], []⟩) Q E ⟨h, g, d, t, os⟩ := by
 have hk : builtinKind "BaseException.__getattribute__" = some .slot := by decide +kernel
 have hsplit : splitId "BaseException.__getattribute__" = some ("BaseException", "__getattribute__") := by decide +kernel
 have L0 := IsExc.type (M := M) I
 have L1 := PySem.W.looks_mroIn (M := M) X T.2.2.2.2.2.2.1
 have ha := F.args_bexc_ga (.ref a) nameV
 simp only [checkBuiltinCall, hk, hsplit]
 refine wpAny_bind ?_
 ·unfold isInstance
  repeat lk
  exact hq
theorem class_call_exc {tk : Tok} {R : Result → Shared → Prop} (X : K.In h) (T : ExcB K C) (I : IsExc a C h) (hq : R (.ok (.ret (.ref C))) ⟨h, g, d, t, os⟩) :
  codeAny (model prog w) A (.call (.builtin "BaseException.__getattribute__") ⟨[.ref a, .str "__class__" tk], []⟩) R ⟨h, g, d, t, os⟩ :=
 codeAny_call_builtin F.excAttr_ValueError.ga.plain F.entry_bexc_ga (check_ga_exc X T I (class_entry_exc X T I hq))
theorem class_by_exc {tk : Tok} {Q : Value → Shared → Prop} (X : K.In h) (T : ExcB K C) (I : IsExc a C h) (hq : Q (.ref C) ⟨h, g, d, t, os⟩) :
  wpAny (model prog w) A (getAttrBy (.ref a) (.str "__class__" tk) false) Q E ⟨h, g, d, t, os⟩ := by
 have L0 := IsExc.type (M := model prog w) I
 have L1 := PySem.W.looks_findIn (M := model prog w) X T.1
 have L2 := PySem.W.looks_findIn (M := model prog w) X T.2.1
 have hx2 : (Value.builtin "BaseException.__getattribute__" == Value.builtin "object.__getattribute__") = false := by decide +kernel
 unfold getAttrBy
 refine wpAny_holding (wpAny_bind (L0.at (wpAny_bind (L1.at ?_))))
 dsimp only
 rw [hx2, Bool.and_false, if_neg Bool.false_ne_true]
 unfold getAttrByItsOwn hookBefore
 rw [show onTheHeap (Value.ref C) = true from rfl, if_pos rfl]
 refine wpAny_bind (L2.at (wpAny_bind (wpAny_attempt (wpAny_holding ?_))))
 unfold callGetattribute
 rw [Bool.false_and, if_neg Bool.false_ne_true]
 have f3 := F.excAttr_ValueError.ga.bind (.ref a)
 unfold boundAndCalled
 repeat lk
 refine wpAny_run (codeAny_mono (class_call_exc (R := fun r s' => r = .ok (.ret (.ref C)) ∧ s' = ⟨h, g, d, t, os⟩) X T I ⟨rfl, rfl⟩) fun r s' hr => ?_)
 obtain ⟨rfl, rfl⟩ := hr
 exact wpAny_pure (wpAny_pure hq)
theorem kitx_exc (T : ExcB K C) : PySem.W.KitX K (.ref a) (.ref C) (IsExc a C) where
 ty := fun _ _ _ I => I.type
 it := fun _ _ X _ => by
  obtain ⟨cdD, hcD⟩ := Option.isSome_iff_exists.mp T.2.2.2.2.2.1
  unfold clsIn at hcD
  split at hcD
  ·rename_i c' d' cd' sl' ho
   intro A' Q' E' s' k q
   unfold isType loadHead
   exact wpAny_bind (wpAny_loadPart (k _ _ (X _ _ ho)) (wpAny_pure q))
  ·cases hcD
 ne := fun h tp dd its n sl X htp => by
  obtain ⟨cdD, hcD⟩ := Option.isSome_iff_exists.mp T.2.2.2.2.2.1
  refine Bool.eq_false_iff.mpr fun q => ?_
  have e : C = tp := Value.ref.inj (beq_iff_eq.mp q)
  subst e
  unfold clsIn at hcD
  split at hcD
  ·rename_i c' d' cd' sl' ho
   have z := (X _ _ ho).symm.trans htp
   cases z
  ·cases hcD
 ca := fun {_ _ _ _ _ s} X I k => by
  obtain ⟨h0, g0, d0, t0, os0⟩ := s
  unfold getAttr? getAttrBy?
  exact wpAny_bind (wpAny_mkText (wpAny_bind (wpAny_attempt (class_by_exc X T I (wpAny_pure k)))))
end
theorem ExcC.b {K : PySem.W.Frag} {C : Addr} (T : ExcC K C) : ExcB K C := ⟨T.ga, T.nog, T.cl, T.hn, T.htk, T.isc, T.sube, T.subo⟩
noncomputable def IsExcD (a C : Addr) (od : Option Addr) (h : Heap) : Prop := ∃ (o : Obj) (vs : Array Value), h.get? a = some o ∧ o.cls = .ref C ∧ o.data = .fields vs ∧ ∀ dx, od = some dx → o.dict = some dx
theorem IsExcD.e {a C : Addr} {od : Option Addr} {h : Heap} (x : IsExcD a C od h) : IsExc a C h := by
 obtain ⟨o, vs, h1, h2, h3, _⟩ := x
 exact ⟨o, vs, h1, h2, h3⟩
noncomputable def excD (a C : Addr) (od : Option Addr) : HO := .ext (IsExcD a C od)
section
variable {X : Cx}
noncomputable def rIsiX (K : PySem.W.Frag) : List V → Hp → VK → Prop := fun xs H Q => ∃ a C od, xs[0]? = some (.ref a) ∧ H a = some (excD a C od) ∧ ExcB K C ∧
 ((∃ D b, xs = [.ref a, .ref D] ∧ PySem.W.kitOne K (.ref C) (.ref D) = some b ∧ Q (.bl b) H) ∨ (∃ T b, xs = [.ref a, .ty T] ∧ PySem.W.kitOne K (.ref C) (.type T) = some b ∧ Q (.bl b) H))
theorem call_isiX {K : PySem.W.Frag} (hK : X.K = K) : CallR X (.builtin "isinstance") (rIsiX K) := by
 subst hK
 intro pins s σ H xs us Q I r h
 obtain ⟨a, C, od, _, ha, T, h⟩ := h
 obtain ⟨hx, _, _⟩ := I.hok a _ ha
 have hx := IsExcD.e hx
 rcases h with ⟨D, b, rfl, e, q⟩ | ⟨D, b, rfl, e, q⟩
 ·obtain ⟨u, v, rfl, ru, rv⟩ := r.two
  obtain rfl : u = Value.ref a := ru
  obtain rfl : v = Value.ref D := rv
  exact PySem.W.kia_one (kitx_exc T) I.kIn hx e (fun z => nomatch z) fun tk => ⟨.bl b, H, I.tok tk, rfl, q⟩
 ·obtain ⟨u, v, rfl, ru, rv⟩ := r.two
  obtain rfl : u = Value.ref a := ru
  obtain rfl : v = Value.type D := rv
  exact PySem.W.kia_one (kitx_exc T) I.kIn hx e (fun z => nomatch z) fun tk => ⟨.bl b, H, I.tok tk, rfl, q⟩
end
end L2
set_option Elab.async false
set_option linter.all false
set_option maxRecDepth 100000
namespace L2
open PySem PySem.Spec PyProof.Rows
noncomputable def DKept (h h' : Heap) : Prop := ∀ a o, h.get? a = some o → ∃ o', h'.get? a = some o' ∧ o'.dict = o.dict
theorem DKept.refl {h : Heap} : DKept h h := fun a o e => ⟨o, e, rfl⟩
theorem DKept.trans {h1 h2 h3 : Heap} (x : DKept h1 h2) (y : DKept h2 h3) : DKept h1 h3 := fun a o e => by
 obtain ⟨o1, e1, d1⟩ := x a o e
 obtain ⟨o2, e2, d2⟩ := y a o1 e1
 exact ⟨o2, e2, d2.trans d1⟩
inductive KD {α : Type} : Sem α → Prop
 | pure (a : α) : KD (.pure a)
 | raise (e : Value) : KD (.raise e)
 | uns (x : String) : KD (.unsupported x)
 | rule {t : String} {k : Unit → Sem α} : KD (k ()) → KD (.rule t k)
 | at {p : Pos} {k : Unit → Sem α} : KD (k ()) → KD (.at p k)
 | load {a : Addr} {p : Option Value} {k : Obj → Sem α} : (∀ o, KD (k o)) → KD (.load a p k)
 | upd {a : Addr} {p : Option Value} {f : Obj → Obj} {k : Unit → Sem α} : (∀ o, (f o).dict = o.dict ∧ (o.isFreed = false → (f o).isFreed = false)) → KD (k ()) → KD (.update a p f k)
 | alloc {o : Obj} {k : Addr → Sem α} : (∀ a, KD (k a)) → KD (.alloc o k)
 | stack {k : List (Code × Pos) → Sem α} : (∀ l, KD (k l)) → KD (.stack k)
 | ask {k : Setting → Sem α} : (∀ l, KD (k l)) → KD (.ask k)
 | fresh {k : Tok → Sem α} : (∀ l, KD (k l)) → KD (.fresh k)
theorem KD.bind {α β : Type} {t : Sem α} {f : α → Sem β} (h : KD t) (g : ∀ a, KD (f a)) : KD (t >>= f) := by
 induction h with
 | pure a => exact g a
 | raise e => exact .raise e
 | uns x => exact .uns x
 | rule _ ih => exact .rule ih
 | «at» _ ih => exact .at ih
 | load _ ih => exact .load ih
 | upd c _ ih => exact .upd c ih
 | alloc _ ih => exact .alloc ih
 | stack _ ih => exact .stack ih
 | ask _ ih => exact .ask ih
 | fresh _ ih => exact .fresh ih
theorem dk_upd {h : Heap} {a : Addr} {f : Obj → Obj} (c : ∀ o, (f o).dict = o.dict ∧ (o.isFreed = false → (f o).isFreed = false)) : DKept h (h.update a f) := by
 intro b o e
 by_cases hb : b = a
 ·subst hb
  obtain ⟨e1, e2⟩ := Heap.get?_some_iff.mp e
  refine ⟨f o, Heap.get?_some_iff.mpr ⟨?_, (c o).2 e2⟩, (c o).1⟩
  cases h with
  | mk objs l =>
   show (objs.modify b f)[b]? = _
   rw [Array.getElem?_modify, if_pos rfl]
   show Option.map f objs[b]? = _
   rw [show objs[b]? = some o from e1]
   rfl
 ·exact ⟨o, Heap.get?_update_of_ne f (Ne.symm hb) e, rfl⟩
theorem KD.wp {α : Type} {M : Model} {Γ : PySem.Ctx} {t : Sem α} (h : KD t) {h0 : Heap} : ∀ {Q : α → Pos → Shared → Prop} {E : Value → Pos → Shared → Prop} {p : Pos} {s : Shared}, DKept h0 s.heap → Sem.wp M Γ t Q E p s →
  Sem.wp M Γ t (fun a p' s' => Q a p' s' ∧ DKept h0 s'.heap) (fun e p' s' => E e p' s' ∧ DKept h0 s'.heap) p s := by
 induction h with
 | pure a => intro Q E p s d q; exact ⟨q, d⟩
 | raise e => intro Q E p s d q; exact ⟨q, d⟩
 | uns x => intro Q E p s d q; exact q
 | rule _ ih => intro Q E p s d q; exact ih d q
 | «at» _ ih => intro Q E p s d q; exact ih d q
 | load _ ih => intro Q E p s d q; obtain ⟨o, e, q⟩ := q; exact ⟨o, e, ih o d q⟩
 | upd c _ ih => intro Q E p s d q; obtain ⟨e, q⟩ := q; exact ⟨e, ih (d.trans (dk_upd c)) q⟩
 | alloc _ ih => intro Q E p s d q; exact ih _ (d.trans fun b o e => ⟨o, Heap.get?_push_of_some _ e, rfl⟩) q
 | stack _ ih => intro Q E p s d q; exact ih _ d q
 | ask _ ih => intro Q E p s d q; exact ih _ d q
 | fresh _ ih => intro Q E p s d q; exact ih _ d q
theorem KD.any {α : Type} {M : Model} {A : Around} {t : Sem α} (h : KD t) {Q : α → Shared → Prop} {E : Value → Shared → Prop} {s : Shared} (q : wpAny M A t Q E s) :
  wpAny M A t (fun a s' => Q a s' ∧ DKept s.heap s'.heap) (fun e s' => E e s' ∧ DKept s.heap s'.heap) s := fun Γ p hΓ => h.wp .refl (q Γ p hΓ)
theorem kd_load {a : Addr} : KD (load a) := .load fun o => .pure o
theorem kd_uns {α : Type} {x : String} : KD (unsupported x : Sem α) := .uns x
theorem kd_fields {v : Value} : KD (fieldsOf v) := by
 unfold fieldsOf
 split
 ·refine kd_load.bind fun o => ?_
  split
  ·exact .pure _
  ·exact kd_uns
 ·exact kd_uns
theorem kd_field {v : Value} {i : Nat} : KD (field v i) := by
 unfold field
 refine kd_fields.bind fun vs => ?_
 split
 ·exact .pure _
 ·exact kd_uns
theorem kd_mapFields {g : Array Value → Array Value} (o : Obj) : (Obj.mapFields g o).dict = o.dict ∧ (o.isFreed = false → (Obj.mapFields g o).isFreed = false) := by
 unfold Obj.mapFields
 split
 ·exact ⟨rfl, fun _ => rfl⟩
 ·exact ⟨rfl, id⟩
theorem kd_setField {v x : Value} {i : Nat} : KD (setField v i x) := by
 unfold setField
 split
 ·unfold updateField
  refine kd_load.bind fun o => ?_
  split
  ·split
   ·exact .upd kd_mapFields (.pure _)
   ·exact kd_uns
  ·exact kd_uns
 ·exact kd_uns
theorem kd_newFields {ty : String} {vs : List Value} : KD (newFields ty vs) := by
 unfold newFields newObj
 dsimp only
 split
 ·exact kd_uns.bind fun _ => .alloc fun a => .pure _
 ·exact .alloc fun a => .pure _
theorem kd_ready : ∀ (l : List Env), KD (readyFrames l)
 | [] => .pure _
 | env :: outer => by
  rw [readyFrames.eq_2]
  split
  ·refine kd_load.bind fun o => ?_
   split
   ·exact .pure _
   ·have h1 : KD (behindIsImport env outer) := by
     unfold behindIsImport
     split
     ·exact .pure _
     ·split
      ·exact .pure _
      ·exact kd_field.bind fun _ => .pure _
    refine h1.bind fun b => ?_
    have h2 : KD (keptBack env b outer) := by
     unfold keptBack
     split
     ·split
      ·exact .pure _
      ·refine KD.bind ?_ fun _ => .pure _
       unfold underTheClaimsCaller
       exact .stack fun l => .pure _
     ·exact .pure _
    refine h2.bind fun v => ?_
    exact .upd (fun o => ⟨rfl, fun h => by obtain ⟨c, d, dt, sl⟩ := o; cases dt <;> first | rfl | exact h⟩) (kd_ready outer)
  ·exact kd_uns
theorem kd_note {e : Value} {env : Env} : KD (noteFrame e env) := by
 unfold noteFrame
 split
 ·rename_i f0 _
  have hj : ∀ (head : Value), KD (do
    let a ← PySem.frameOf env
    let b ← entryPlaceOf f0 (head != Value.none)
    let c ← EntryCells.newEntry head a Value.none (rawInt f0) Value.none b
    setField e 1 c) := fun head => by
   refine KD.bind ?_ fun a => KD.bind ?_ fun b => KD.bind ?_ fun c => kd_setField
   ·unfold PySem.frameOf
    refine KD.bind ?_ fun l => KD.bind ?_ fun o => ?_
    ·exact .stack fun l => .pure _
    ·unfold frameObject
     split
     ·exact .pure _
     ·exact (kd_ready _).bind fun _ => .pure _
    ·split
     ·exact .pure _
     ·exact kd_uns
   ·unfold entryPlaceOf
    refine KD.bind (.stack fun l => .pure _) fun acts => ?_
    split
    ·exact .pure _
    ·exact .pure _
   ·exact kd_newFields
  refine kd_field.bind fun head => ?_
  dsimp only
  split
  ·refine kd_field.bind fun x => ?_
   split
   ·exact .pure _
   ·exact kd_setField.bind fun _ => hj head
  ·exact hj head
 ·exact kd_uns
theorem kd_flight {e : Value} {fr : Option Addr} : KD (setFlight e fr) := by
 unfold setFlight
 refine kd_field.bind fun tb => ?_
 split
 ·exact kd_setField
 ·exact .pure _
theorem kd_leaving {e : Value} {env : Env} : KD (leaving env e) := kd_note.bind fun _ => kd_flight
end L2
set_option Elab.async false
set_option linter.all false
set_option maxRecDepth 100000
namespace L2
open PySem PySem.Spec PyProof.Rows
theorem ObjOk.there {P : Program} {w : World} {H : Hp} {h : Heap} {a : Addr} {o : HO} (x : ObjOk P w H h a o) : ∃ u, h.get? a = some u := by
 cases o with
 | lst xs => obtain ⟨_, _, _, _, e⟩ := x; exact ⟨_, e⟩
 | tup xs => obtain ⟨_, _, _, ob, e, _⟩ := x; exact ⟨_, e⟩
 | dK kvs => obtain ⟨_, _, _, _, ob, _, _, e, _⟩ := x; exact ⟨_, e⟩
 | dT kvs => obtain ⟨_, _, _, _, ob, _, _, e, _⟩ := x; exact ⟨_, e⟩
 | set S n => obtain ⟨ob, _, _, _, e, _⟩ := x; exact ⟨_, e⟩
 | ins C dx fs => obtain ⟨_, _, _, e, _⟩ := x; exact ⟨_, e⟩
 | own y => exact x
 | xd fs => obtain ⟨_, ⟨ob, _, _, e, _⟩, _⟩ := x; exact ⟨_, e⟩
 | rng lo hi => obtain ⟨_, _, _, e⟩ := x; exact ⟨_, e⟩
 | frz ob u => exact ⟨_, x.1⟩
 | tbl ps => exact ⟨_, (show h.get? a = some _ from x)⟩
 | met f y => exact ⟨_, (show h.get? a = some _ from x)⟩
 | ext φ => exact x.2.1
noncomputable def CXE (P : Program) (w : World) : CXT := fun outer H s E ev s' => ∃ (e C : Addr) (a0 : Value) (B : Heap) (H' : Hp) (od : Option Addr), ev = .ref e ∧ s'.os = s.os ∧ AllBare s'.gens ∧ Un (frs outer) [] H H' s.heap s'.heap ∧
 HOk P w H' s'.heap ∧ Heap.FlyingW B outer e (.ref C) a0 s'.heap ∧ (∀ b u, H' b = some u → ∃ o, B.get? b = some o) ∧ (∀ b o, s.heap.get? b = some o → b ∉ frs outer → ∃ o', B.get? b = some o') ∧ (∃ oe, s'.heap.get? e = some oe ∧ ∀ dx, od = some dx → oe.dict = some dx) ∧ E (.ref C) od H'
section
variable {P : Program} {w : World} {H H1 H' : Hp} {h0 h1 h2 B : Heap} {fs : List Addr} {L : Addr}
theorem fly_hok (ok : HOk P w H' h1) (b1 : B.StaysIn h1) (b2 : B.StaysIn h2) (c1 : ∀ b u, H' b = some u → ∃ o, B.get? b = some o) : HOk P w H' h2 := fun a o e =>
 (ok a o e).stay (fun b u hb q => by
  have hB : ∃ o', B.get? b = some o' := by
   rcases hb with rfl | hb
   ·exact c1 _ _ e
   ·exact c1 _ _ hb
  obtain ⟨o', hB⟩ := hB
  have z := b1 b o' hB
  rw [q] at z
  cases z
  exact b2 b _ hB) (fun _ q => q) fun _ _ q => q
theorem fly_un (u : Un fs [] H H' h0 h1) (b1 : B.StaysIn h1) (b2 : B.StaysIn h2) (up : h1.UpToSlots h2) (c2 : ∀ b o, h0.get? b = some o → b ∉ fs → ∃ o', B.get? b = some o')
  (hfs : ∀ b ∈ fs, H b = none ∧ ∃ o, h0.get? b = some o ∧ ∀ vs, o.data ≠ .fields vs) : Un fs [] H H' h0 h2 where
 keep := fun b o q n hb hx => by
  have e := u.keep b o q n hb hx
  obtain ⟨o', hB⟩ := c2 b o q hb
  have z := b1 b o' hB
  rw [e] at z
  cases z
  exact b2 b _ hB
 slot := fun b o q n hb hx => by
  obtain ⟨sl, e⟩ := u.slot b o q n hb hx
  obtain ⟨_, o2, ho2, nf⟩ := hfs b hb
  rw [q] at ho2
  cases ho2
  obtain ⟨sl', e'⟩ := up b _ e nf
  exact ⟨sl', e'⟩
 free := u.free
 there := fun b o q hx => by
  by_cases hb : b ∈ fs
  ·obtain ⟨n, o2, ho2, nf⟩ := hfs b hb
   rw [q] at ho2
   cases ho2
   obtain ⟨sl, e⟩ := u.slot b o q n hb hx
   obtain ⟨sl', e'⟩ := up b _ e nf
   exact ⟨_, e'⟩
  ·obtain ⟨o', hB⟩ := c2 b o q hb
   exact ⟨_, b2 b _ hB⟩
 tups := u.tups
 frzs := u.frzs
 tbls := u.tbls
theorem Un.under (a : Un fs [] H H1 h0 h1) (b : Un (L :: fs) [] H1 H' h1 h2) (hL : ∀ c o, h0.get? c = some o → c ≠ L) : Un fs [] H H' h0 h2 where
 keep := fun c o q n hc hx => b.keep c o (a.keep c o q n hc hx) (a.free c o q n hx) (fun z => (List.mem_cons.mp z).elim (hL c o q) hc) hx
 slot := fun c o q n hc hx => by
  obtain ⟨sl, e1⟩ := a.slot c o q n hc hx
  obtain ⟨sl', e2⟩ := b.slot c _ e1 (a.free c o q n hx) (List.mem_cons_of_mem _ hc) hx
  exact ⟨sl', e2⟩
 free := fun c o q n hx => by
  obtain ⟨o', e1⟩ := a.there c o q hx
  exact b.free c o' e1 (a.free c o q n hx) hx
 there := fun c o q hx => by
  obtain ⟨o', e1⟩ := a.there c o q hx
  exact b.there c o' e1 hx
 tups := fun c xs q => b.tups c xs (a.tups c xs q)
 frzs := fun c o xs q => b.frzs c o xs (a.frzs c o xs q)
 tbls := fun c ps q => by
  obtain ⟨m1, e1⟩ := a.tbls c ps q
  obtain ⟨m2, e2⟩ := b.tbls c _ e1
  exact ⟨m1 ++ m2, by rw [e2, Array.append_assoc]⟩
end
section
variable {X : Cx} {pins : List (Addr × Obj)} {σ : St} {H : Hp} {s : Shared}
theorem Inv.hfs (I : Inv X pins σ H s) : ∀ b ∈ frs X.stack, H b = none ∧ ∃ o, s.heap.get? b = some o ∧ ∀ vs, o.data ≠ .fields vs := fun b hb => by
 obtain ⟨_, o, ho, nf⟩ := I.stack.mem hb
 exact ⟨I.stkFree b hb, o, ho, nf⟩
end
theorem passE0 {X : Cx} {P : Program} {w : World} : Passes (CXE P w) X E0 := fun _ _ _ _ _ _ _ h => by
 obtain ⟨_, _, _, _, _, _, _, _, _, _, _, _, _, _, _, hE⟩ := h
 exact hE.elim
noncomputable def MadeOk (X : Cx) (E : XK) : Prop := ∀ (pins : List (Addr × Obj)) (σ : St) (H : Hp) (s : Shared) (e C : Addr) (args : List Value) (h' : Heap), Inv X pins σ H s → Heap.MadeExcOf s.heap h' e (.ref C) args → E (.ref C) none H → X.xe (.ref e) { s with heap := h' }
section
variable {P : Program} {w : World} {K : PySem.W.Frag} {mg : Str → Option Value} {base : Heap} {N : List Str} {qual : Str} {scope : Scope} {f : Addr} {cd : Value} {A : Around} {outer : List Env} {s : Shared} {H : Hp} {E : XK}
theorem madeE : MadeOk (cxOf (CXE P w) P w K mg base N qual scope f cd A outer s H E) E := by
 intro pins σ H1 s1 e C args h' I hm hE
 have neL : ∀ b o, s.heap.get? b = some o → b ≠ s.heap.objs.size := fun b o q => Nat.ne_of_lt (Heap.lt_size q)
 have hB : ∀ b o, s1.heap.get? b = some o → b ∉ frs (cxOf (CXE P w) P w K mg base N qual scope f cd A outer s H E).stack → (PySem.W.hideAll s1.heap (frs (cxOf (CXE P w) P w K mg base N qual scope f cd A outer s H E).stack)).get? b = some o := fun b o q hb => PySem.W.hideAll_get _ q hb
 have bs : (PySem.W.hideAll s1.heap (frs (cxOf (CXE P w) P w K mg base N qual scope f cd A outer s H E).stack)).StaysIn s1.heap := fun b o q => PySem.W.of_hideAll _ q
 refine wpAny_leaves_madeW (base := PySem.W.hideAll s1.heap (frs (cxOf (CXE P w) P w K mg base N qual scope f cd A outer s H E).stack)) (h := s1.heap) I.ok.frames rfl bs (PySem.W.funFrames_hide I.stack fun env he a ha => List.mem_filterMap.mpr ⟨env, he, ha⟩) hm fun h2 t fl _ _ up => ?_
 have c1 : ∀ b u, H1 b = some u → ∃ o, (PySem.W.hideAll s1.heap (frs (cxOf (CXE P w) P w K mg base N qual scope f cd A outer s H E).stack)).get? b = some o := fun b u q => by
  obtain ⟨o, ho⟩ := (I.hok b u q).there
  refine ⟨o, hB b o ho fun z => ?_⟩
  rw [I.stkFree b z] at q
  cases q
 have c2 : ∀ b o, s1.heap.get? b = some o → b ∉ frs (cxOf (CXE P w) P w K mg base N qual scope f cd A outer s H E).stack → ∃ o', (PySem.W.hideAll s1.heap (frs (cxOf (CXE P w) P w K mg base N qual scope f cd A outer s H E).stack)).get? b = some o' := fun b o q hb => ⟨o, hB b o q hb⟩
 have up2 : s1.heap.UpToSlots h2 := (Heap.UpToSlots.of_keeps hm.keeps).trans up
 refine ⟨e, C, .ref t, _, H1, none, rfl, I.os, I.bare, ?_, fly_hok I.hok bs fl.1 c1, fl, c1, fun b o q hb => ?_, ?_, hE⟩
 ·exact Un.under (L := s.heap.objs.size) I.base (fly_un Un.refl bs fl.1 up2 c2 I.hfs) neL
 ·obtain ⟨o1, q1⟩ := I.base.there b o q (fun z => nomatch z)
  exact c2 b o1 q1 fun z => (List.mem_cons.mp z).elim (neL b o q) hb
 ·obtain ⟨ob, h1, _⟩ := fl.there
  exact ⟨ob, h1, fun dx z => nomatch z⟩
end
theorem exc_obj {K : PySem.W.Frag} {h : Heap} {C : Addr} {bmB : List Value} {newId : String} (X : K.In h) (q : PySem.W.excIn K C bmB newId = true) :
  ∃ (bm : List Value) (N : Addr) (nm qn : Str) (bs : List Value) (hd : Bool) (sn : List Str) (sub : List Value) (ab : Bool) (col : Option Bool) (dd : Option Addr) (k0 k1 k2 k3 k5 : Option Value) (mN : Str → Option Value),
   h.get? C = some (excClassObj nm qn C N bs bm hd sn sub ab col dd k0 k1 k2 k3 k5 newId) ∧ h.Ns N mN ∧ mN "__init__" = none ∧ OwnTail h bmB bm := by
 unfold PySem.W.excIn at q
 split at q
 ·rename_i dd cd sl ho
  split at q
  ·rename_i C' bm k0 k1 k2 k3 n k5 hm hs
   simp only [Bool.and_eq_true, beq_iff_eq, Bool.not_eq_true'] at q
   have q1 := q.1.1.1.1.1
   have q2 := q.1.1.1.1.2
   have q3 := q.1.1.1.2
   have q4 := q.1.1.2
   have q5 := q.1.2
   have q6 := q.2
   subst q1 q2
   cases cd with
   | mk nm bs mro ns qn hd sn sub ab col del =>
    dsimp only at hm q3 q5 q6
    subst hm q3
    have hsl : sl = #[k0, k1, k2, k3, some (.builtin n), k5] := by
     cases sl with
     | mk l => simp only at hs; rw [hs]
    subst hsl
    have nn := PySem.W.nsMap_none_of_in X q5 q6
    exact ⟨bm, ns, nm, qn, bs, hd, sn, sub, ab, col, dd, k0, k1, k2, k3, k5, _, X _ _ ho, .of_isNs (PySem.W.isNs_of_in X q5), nn, PySem.W.tail_of_in X q4⟩
  ·cases q
 ·cases q
noncomputable def tRaise (C : Addr) (E : XK) (t : TA) : TS := fun _ σ H => t σ H fun vs H1 => vs.length ≤ 3 ∧ E (.ref C) none H1
section
variable {X : Cx} {E : XK} {C : Addr} {x : Str} {np cpos pos : Pos} {e : Expr} {es : List Expr} {t : TA}
theorem Vals.len3 {vs : List V} {us : List Value} (r : Vals vs us) (h : vs.length ≤ 3) : us.length ≤ sizeLine := by
 rw [← r.length]
 exact Nat.le_trans h (by decide)
theorem ps_raise {K : PySem.W.Frag} (hK : X.K = K) (hM : MadeOk X E) (T : ExcC K C) (hg : Gl X x) (hm : X.mg x = some (.ref C)) (ha : PA X (e :: es) t) (hc : X.calm = true := by rfl) (hdb : (x == ("__debug__" : Str)) = false := by decide)
  (he : starEach (e :: es) X.env = (false, eval e X.env) :: starEach es X.env := by rfl) (hpl : (backTo cpos (starEach es X.env)).any (·.1) = false := by rfl) :
  PS X (.Raise (some (.Call (.Name x np) (e :: es) [] cpos)) none pos) (tRaise C E t) := by
 subst hK
 intro pins s σ H D I h
 obtain ⟨bm, N, nm, qn, bs, hd, sn, sub, ab, col, dd, k0, k1, k2, k3, k5, mN, hC, hn, hni, OT⟩ := exc_obj I.ok.mod.kin T.exc
 refine wpAny_Raise_call_subT (C := C) (N := N) (nm := nm) (q := qn) (bs := bs) (bm := bm) (hdct := hd) (sn := sn) (sub := sub) (ab := ab) (col := col) (dd := dd) (k0 := k0) (k1 := k1) (k2 := k2) (k3 := k3) (k5 := k5) (mN := mN) F.excBase_ValueError (OT.hasType (by decide +kernel)) (I.ok.hd hc) ?_ hni ?_
 ·rw [he]
  show (false || (backTo cpos (starEach es X.env)).any (·.1)) = false
  rw [hpl]
  rfl
 ·refine ld_glob I hg hm ⟨rfl, ?_⟩ hdb
  have h2 := ha cpos pins s σ H _ I h
  rw [he] at h2 ⊢
  refine Calls.evalArgs_plain (wpAny_mono h2 (fun us s2 q => ?_) fun _ _ y => y)
  obtain ⟨vs, H1, I1, r, q1, q2⟩ := q
  refine ⟨rfl, r.len3 q1, I1.bk _ _ hC, hn.keeps I1.bk, OT.keeps I1.bk, fun h' e' hm' => ?_⟩
  exact hM pins σ H1 s2 e' C us h' I1 hm' q2
end
end L2
set_option Elab.async false
set_option linter.all false
set_option maxRecDepth 100000
namespace L2
open PySem PySem.Spec PyProof.Rows
noncomputable def PassesS (CX : CXT) (X : Cx) (σ0 : St) (E : XK) : Prop := ∀ (pins : List (Addr × Obj)) (H : Hp) (s : Shared) (e : Value) (s' : Shared), Inv X pins σ0 H s → CX X.stack H s E e s' → X.xe e s'
noncomputable def tCallS (σ0 : St) (sp : Sp) (E : XK) (t : TA) : TE := fun σ H Q => t σ H fun vs H1 => σ = σ0 ∧ sp vs H1 Q E
section
variable {X : Cx} {CX : CXT} {k : Nat} {ps : List Str} {sp : Sp} {E : XK} {x : Str} {p pos : Pos} {e : Expr} {es : List Expr} {t : TA} {σ0 : St}
theorem pe_fnS (F : FnB X.prog X.w X.K X.mg X.base CX k x ps sp) (hr : Room k X.A) (hg : Gl X x) (hx : PassesS CX X σ0 E)
  (ha : PA X (e :: es) t) (hdb : (x == ("__debug__" : Str)) = false := by decide) (he : starEach (e :: es) X.env = (false, eval e X.env) :: starEach es X.env := by rfl) (hpl : (backTo pos (starEach es X.env)).any (·.1) = false := by rfl) :
  PE X (.Call (.Name x p) (e :: es) [] pos) (tCallS σ0 sp E t) := by
 obtain ⟨f, fd, F1, hm, hk, hb⟩ := F.ex
 intro pins s σ H Q I h
 refine wpAny_Call_Name_kw (ld_glob I hg hm ?_ hdb)
 have ha2 := ha pos pins s σ H _ I h
 refine PySem.W.callWith_K (h₀ := X.base) I.ok.mod.kin hk (thn ha2 fun us s1 z => ?_) he hpl
 obtain ⟨vs, H1, I1, r, e0, q⟩ := z
 subst e0
 refine ⟨I1.kIn, ?_⟩
 have hl : us.length = ps.length := by
  rw [← r.length]
  exact F1.len _ _ _ _ q
 have hb2 := hb s1 us I1.kIn (by rw [List.append_nil]; exact hl)
 rw [List.append_nil] at hb2
 have run := F1.run X.A X.stack s1 H1 ⟨us, []⟩ us vs Q E hr I1.env0 hb2 r q
 refine wpAny_call (codeAny_mono run fun r' s' hq => ?_)
 match r', hq with
 | .error ev, hq => exact hx pins H1 s1 ev s' I1 hq
 | .ok (.ret u), hq => exact I1.after hq
 | .ok .next, hq => exact False.elim hq
 | .ok .brk, hq => exact False.elim hq
 | .ok .cont, hq => exact False.elim hq
end
noncomputable abbrev Cx.tryIn (X : Cx) (pn : List (Addr × Obj)) (W : Value → Shared → Prop) : Cx := { X with pn := pn, xe := W }
noncomputable abbrev Cx.suite (X : Cx) (ev : Value) : Cx := { X with A := X.A.mark (some ev), calm := false, xe := fun _ _ => False }
section
variable {X : Cx} {pins pins' pn : List (Addr × Obj)} {σ : St} {H : Hp} {s : Shared} {W : Value → Shared → Prop} {ev : Value} {D : Ends} {f : Flow}
theorem Cx.Ok.tryIn (ok : X.Ok) : (X.tryIn pn W).Ok :=
 ⟨ok.mod, ok.kind, ok.glob, ok.blt, ok.above, ok.inj, ok.has, ok.cab, ok.hd, ok.frames, ok.stk, ok.exf, ok.bs, ok.bsz, ok.noex, ok.exfs, ok.funs, ok.frf⟩
theorem Cx.Ok.tryOut (ok : (X.tryIn pn W).Ok) : X.Ok :=
 ⟨ok.mod, ok.kind, ok.glob, ok.blt, ok.above, ok.inj, ok.has, ok.cab, ok.hd, ok.frames, ok.stk, ok.exf, ok.bs, ok.bsz, ok.noex, ok.exfs, ok.funs, ok.frf⟩
theorem Inv.tryIn (I : Inv X pins σ H s) : Inv (X.tryIn (X.pn ++ pins) W) [] σ H s :=
 ⟨I.ok.tryIn, I.os, I.bare, I.base, I.loc, I.cell, I.free, I.freeC, fun p hp => I.pin p (by simpa using hp), I.hok, I.len⟩
theorem Inv.tryOut (I : Inv (X.tryIn (X.pn ++ pins) W) pins' σ H s) : Inv X pins σ H s :=
 ⟨I.ok.tryOut, I.os, I.bare, I.base, I.loc, I.cell, I.free, I.freeC, fun p hp => I.pin p (List.mem_append_left _ hp), I.hok, I.len⟩
theorem SP.tryOut (h : SP (X.tryIn (X.pn ++ pins) W) pins' D f s) : SP X pins D f s := by
 match f, h with
 | .next, ⟨σ', H', I, q⟩ => exact ⟨σ', H', I.tryOut, q⟩
 | .brk, ⟨σ', H', I, q⟩ => exact ⟨σ', H', I.tryOut, q⟩
 | .cont, ⟨σ', H', I, q⟩ => exact ⟨σ', H', I.tryOut, q⟩
 | .ret u, ⟨v, σ', H', I, r, q⟩ => exact ⟨v, σ', H', I.tryOut, r, q⟩
theorem Cx.Ok.suite (ok : X.Ok) : (X.suite ev).Ok :=
 ⟨ok.mod, ok.kind, ok.glob, ok.blt, ok.above, ok.inj, ok.has, ok.cab, (fun z => nomatch z), ok.frames, ok.stk, ok.exf, ok.bs, ok.bsz, ok.noex, ok.exfs, ok.funs, ok.frf⟩
theorem Inv.suite (I : Inv X pins σ H s) : Inv (X.suite ev) pins σ H s := ⟨I.ok.suite, I.os, I.bare, I.base, I.loc, I.cell, I.free, I.freeC, I.pin, I.hok, I.len⟩
theorem Inv.unsuite (ok : X.Ok) (I : Inv (X.suite ev) pins σ H s) : Inv X pins σ H s := ⟨ok, I.os, I.bare, I.base, I.loc, I.cell, I.free, I.freeC, I.pin, I.hok, I.len⟩
theorem Inv.track {a : Addr} {o : HO} (I : Inv X pins σ H s) (hn : H a = none) (h0 : ∀ b u, X.s₀.heap.get? b = some u → b ∉ X.ex → b ≠ a) (hl : X.env.locals ≠ a) (hc : ∀ x c, X.env.cells.lookup x = some c → c ≠ a)
  (hp : ∀ p ∈ X.pn ++ pins, p.1 ≠ a) (new : ObjOk X.prog X.w (upd H a o) s.heap a o) : Inv X pins σ (upd H a o) s := by
 refine ⟨I.ok, I.os, I.bare, ⟨I.base.keep, I.base.slot, fun b u q n hx => ?_, I.base.there, fun b xs q => ?_, fun b u xs q => ?_, fun b ps q => ?_⟩, I.loc, I.cell, ?_, fun x c e => ?_, fun p hq => ?_, fun b u q => ?_, I.len⟩
 ·rw [upd_ne (h0 b u q hx)]
  exact I.base.free b u q n hx
 ·have z := I.base.tups b xs q
  rw [upd_ne (ne_of_none z hn)]
  exact z
 ·have z := I.base.frzs b u xs q
  rw [upd_ne (ne_of_none z hn)]
  exact z
 ·obtain ⟨more, z⟩ := I.base.tbls b ps q
  exact ⟨more, by rw [upd_ne (ne_of_none z hn)]; exact z⟩
 ·rw [upd_ne hl]
  exact I.free
 ·rw [upd_ne (hc x c e)]
  exact I.freeC x c e
 ·obtain ⟨e1, e2, e3, e4, e5⟩ := I.pin p hq
  exact ⟨e1, by rw [upd_ne (hp p hq)]; exact e2, e3, e4, e5⟩
 ·by_cases hb : b = a
  ·subst hb
   rw [upd_same] at q
   cases q
   exact new
  ·rw [upd_ne hb] at q
   exact (I.hok b u q).stay (fun c v _ z => z) (fun c z => by rw [upd_ne (ne_of_none z hn)]; exact z) fun c xs z => by rw [upd_ne (ne_of_none z hn)]; exact z
theorem gone_ok {M : Model} {A : Around} {E : Value → Shared → Prop} {i : Nat} {n : Str} {pos : Pos} {Q : Unit → Shared → Prop} (I : Inv X pins σ H s) (hN : X.N.Nodup) (hi : X.N[i]? = some n) (hk : X.env.scope.names.lookup n = some .local)
  (h : ∀ s', Inv X pins (σ.set i none) H s' → Q () s') : wpAny M A (do bindName X.env n .none; unbindBehindTheSuite X.env n pos) Q E s := by
 obtain ⟨m, hn, hl⟩ := id I.loc
 have hcls : (X.env.scope.kind == .class || (X.env.scope.kind == .module && X.env.locals != X.env.globals)) = false := by rw [I.ok.kind]; rfl
 have hiσ : i < σ.length := by rw [I.len]; exact (List.getElem?_eq_some_iff.mp hi).1
 refine wpAny_nameGoes_keeps hk hn hcls fun h' v hn' hs => ?_
 obtain ⟨oL, _, _, hoL, _⟩ := id hn
 have other : ∀ b, b ≠ X.env.locals → h'.get? b = s.heap.get? b := fun b hb => hs.2 b hb
 have old : ∀ b o, X.s₀.heap.get? b = some o → b ≠ X.env.locals := fun b o q => Nat.ne_of_lt (Nat.lt_of_lt_of_le (Heap.lt_size q) I.ok.above)
 have ntr : ∀ b u, H b = some u → b ≠ X.env.locals := fun b u q z => by
  rw [z, I.free] at q
  cases q
 refine h _ ⟨I.ok, I.os, I.bare, ⟨fun b o e n hb hx => ?_, fun b o e n hb hx => ?_, I.base.free, fun b o e hx => ?_, I.base.tups, I.base.frzs, I.base.tbls⟩, ⟨_, hn', fun j y v' e1 e2 e3 => ?_⟩, fun y c e => ?_, I.free, I.freeC, fun p hp => ?_, fun b ob e => ?_, by simpa using I.len⟩
 ·exact (other b (old b o e)).trans (I.base.keep b o e n hb hx)
 ·obtain ⟨sl, e1⟩ := I.base.slot b o e n hb hx
  exact ⟨sl, (other b (old b o e)).trans e1⟩
 ·obtain ⟨o', e1⟩ := I.base.there b o e hx
  exact ⟨o', (other b (old b o e)).trans e1⟩
 ·by_cases hj : j = i
  ·subst hj
   rw [List.getElem?_set_self hiσ] at e2
   cases e2
  ·rw [List.getElem?_set_ne (Ne.symm hj)] at e2
   obtain ⟨u', r', q⟩ := hl j y v' e1 e2 e3
   refine ⟨u', r', ?_⟩
   rcases q with ⟨k, e⟩ | ⟨k, c, e, z⟩
   ·refine .inl ⟨k, ?_⟩
    have ne : y ≠ n := fun e => hj (nodup_ix hN e1 (e ▸ hi))
    simp [ne, e]
   ·exact .inr ⟨k, c, e, z.sameBut hs (I.cne y c e)⟩
 ·obtain ⟨w', z⟩ := I.cell y c e
  exact ⟨w', z.sameBut hs (I.cne y c e)⟩
 ·obtain ⟨e, n, ne, nf, d⟩ := I.pin p hp
  exact ⟨(other p.1 ne).trans e, n, ne, nf, d⟩
 ·refine (I.hok b ob e).stay (fun c w' hc q => (other c ?_).trans q) (fun _ q => q) fun _ _ q => q
  rcases hc with z | z
  ·rw [z]; exact ntr b ob e
  ·exact ntr c _ z
end
noncomputable def goneEnds (D : Ends) (i : Nat) : Ends := { nx := fun σ H => D.nx (σ.set i none) H, rt := D.rt, bk := fun σ H => D.bk (σ.set i none) H, ct := fun σ H => D.ct (σ.set i none) H }
noncomputable def tryE (K : PySem.W.Frag) (cD : Addr) (i : Nat) (th : TS) (D : Ends) (σ : St) : XK := fun cls od H' => ∃ C, cls = .ref C ∧ ExcB K C ∧ PySem.W.exmOne K (.ref C) (.ref cD) = some true ∧
 ∀ e, H' e = none → th (goneEnds D i) (σ.set i (some (.ref e))) (upd H' e (excD e C od))
noncomputable def tTry (K : PySem.W.Frag) (cD : Addr) (i : Nat) (tb : XK → St → TS) (th : TS) : TS := fun D σ H => tb (tryE K cD i th D σ) σ D σ H
section
variable {X : Cx} {body suite : List Stmt} {b₀ : Stmt} {x n : Str} {np hpos pos : Pos} {i : Nat} {cD : Addr} {tb : XK → St → TS} {th : TS} {K : PySem.W.Frag}
theorem excD_ok {P : Program} {w : World} {H : Hp} {h : Heap} {e C : Addr} {od : Option Addr} (x : IsExcD e C od h) : ObjOk P w H h e (excD e C od) := by
 refine ⟨x, ?_, fun h1 h2 y k => ?_⟩
 ·obtain ⟨o, vs, q, _⟩ := x
  exact ⟨o, q⟩
 ·obtain ⟨o, vs, q, r⟩ := y
  exact ⟨o, vs, k o q, r⟩
theorem ps_try (hK : X.K = K) (hb : ∀ (pn : List (Addr × Obj)) (W : Value → Shared → Prop) (E : XK) (σ0 : St), PassesS (CXE X.prog X.w) (X.tryIn pn W) σ0 E → PSs (X.tryIn pn W) body (tb E σ0))
  (hh : ∀ ev, PSs (X.suite ev) (b₀ :: suite) th) (hst : X.stack = X.env :: X.outer := by rfl) (hf : X.env.frame = some X.env.locals := by rfl) (hN : X.N.Nodup) (hi : X.N[i]? = some n) (hl : X.env.scope.names.lookup n = some .local)
  (hg : Gl X x) (hm : X.mg x = some (.ref cD)) (hdb : (x == ("__debug__" : Str)) = false := by decide) :
  PS X (.Try body [.ExceptHandler (some (.Name x np)) (some n) (b₀ :: suite) hpos] [] [] pos) (tTry K cD i tb th) := by
 subst hK
 intro pins s σ H D I h
 refine wpAny_Try_except ?_
 have hp : PassesS (CXE X.prog X.w) (X.tryIn (X.pn ++ pins) fun ev s₁ => wpAny (model X.prog X.w) X.A (noteFrame ev X.env) (fun _ s₂ => wpAny (model X.prog X.w) X.A (setFlight ev none) (fun _ s₃ => wpAny (model X.prog X.w) X.A (handleBy ev X.env [.ExceptHandler (some (.Name x np)) (some n) (b₀ :: suite) hpos]) (SP X pins D) X.xe s₃) X.xe s₂) X.xe s₁) σ (tryE X.K cD i th D σ) := by
  intro pins' H1 s1 ev s' I1 hc
  obtain ⟨e, C, a0, B, H', od, rfl, os, bare, un, hok, fl, c1, c2, hd, C', hcc, T, hx, hth⟩ := hc
  cases hcc
  have hfr : X.A.frames = some (X.env :: X.outer) := I.ok.frames.trans (by rw [hst])
  have fl1 : Heap.FlyingW B (X.env :: X.outer) e (.ref C) a0 s'.heap := by
   have z : Heap.FlyingW B X.stack e (.ref C) a0 s'.heap := fl
   rw [hst] at z
   exact z
  refine wpAny_mono (kd_note.any (wpAny_looks_onW (Q := fun _ s2 => ∃ h4, s2 = { s' with heap := h4 } ∧ Heap.HeldW B (X.env :: X.outer) e (.ref C) a0 X.env.locals h4 ∧ s'.heap.UpToSlots h4) (E := fun _ _ => False) hfr hf fl1 fun h4 held up4 => ⟨h4, rfl, held, up4⟩)) (fun _ s2 hq => ?_) fun _ _ z => z.1.elim
  obtain ⟨⟨h4, rfl, held, up4⟩, dk4⟩ := hq
  refine wpAny_mono (kd_flight.any (wpAny_landsW (Q := fun _ s2 => ∃ h5, s2 = { s' with heap := h5 } ∧ Heap.FlyingW B (X.env :: X.outer) e (.ref C) a0 h5 ∧ h4.UpToSlots h5) (E := fun _ _ => False) held fun h5 fl5 up5 => ⟨h5, rfl, fl5, up5⟩)) (fun _ s2 hq => ?_) fun _ _ z => z.1.elim
  obtain ⟨⟨h5, rfl, fl5, up5⟩, dk5⟩ := hq
  have mk : ∀ h6, B.StaysIn h6 → s'.heap.UpToSlots h6 → Inv X pins σ H' { s' with heap := h6 } := fun h6 st up => by
   have J := I1.call' (s' := { s' with heap := h6 }) (ch := []) os (fly_un un fl.1 st up c2 I1.hfs) (fly_hok hok fl.1 st c1) bare (fun b z => nomatch z)
   exact J.tryOut
  have ne1 : ∀ h6, Heap.FlyingW B (X.env :: X.outer) e (.ref C) a0 h6 → s'.heap.UpToSlots h6 → ∀ b o, s1.heap.get? b = some o → b ≠ e := fun h6 fl6 up b o q z => by
   by_cases hb : b ∈ frs X.stack
   ·obtain ⟨hn, o2, ho2, nf⟩ := I1.hfs b hb
    rw [q] at ho2
    cases ho2
    obtain ⟨sl, e1⟩ := un.slot b o q hn hb (fun z => nomatch z)
    obtain ⟨sl', e2⟩ := up b _ e1 nf
    obtain ⟨oe, vs, he, _, hd, _⟩ := fl6.first
    rw [z, he] at e2
    cases e2
    exact nf vs hd
   ·obtain ⟨o', hB⟩ := c2 b o q hb
    rw [z, fl6.2.1] at hB
    cases hB
  have hne : H' e = none := by
   cases q : H' e with
   | none => rfl
   | some u =>
    obtain ⟨o, hB⟩ := c1 e u q
    rw [fl.2.1] at hB
    cases hB
  refine wpAny_handleBy_cons (codeAny_handlers_test ?_) (by intro q; cases q)
  have J5 := mk h5 fl5.1 (up4.trans up5)
  refine ld_glob (X := X.suite (.ref e)) J5.suite hg hm ?_ hdb
  have LT : PySem.W.Looks (model X.prog X.w) h5 (typeOf (.ref e)) (.ref C) := by
   obtain ⟨oe, ho, hc⟩ := fl5.there
   exact hc ▸ (PySem.W.Looks.ld ho).andThen .now
  refine (PySem.W.exm_one J5.kIn LT hx).here ?_
  show codeAny _ _ _ _ _
  refine codeAny_handlers_suite_as ?_
  refine wpAny_mono (kd_flight.any (lands_againW (Q := fun _ s2 => ∃ h6, s2 = { s' with heap := h6 } ∧ Heap.FlyingW B (X.env :: X.outer) e (.ref C) a0 h6 ∧ h5.UpToSlots h6) (E := fun _ _ => False) fl5 fun h6 fl6 up6 => ⟨h6, rfl, fl6, up6⟩)) (fun _ s2 hq => ?_) fun _ _ z => z.1.elim
  obtain ⟨⟨h6, rfl, fl6, up6⟩, dk6⟩ := hq
  have up := (up4.trans up5).trans up6
  have J6 := mk h6 fl6.1 up
  have ne := ne1 h6 fl6 up
  have IE : IsExc e C h6 := by
   obtain ⟨oe, vs, he, hc, hd, _⟩ := fl6.first
   exact ⟨oe, vs, he, hc, hd⟩
  have nf : ∀ b o, h6.get? b = some o → (∀ vs, o.data ≠ .fields vs) → b ≠ e := fun b o q d z => by
   obtain ⟨oe, vs, he, hc, hd⟩ := IE
   rw [z, he] at q
   cases q
   exact d vs hd
  have ID : IsExcD e C od h6 := by
   obtain ⟨o0, z1, z2⟩ := hd
   obtain ⟨o4, z3, z4⟩ := dk4 e o0 z1
   obtain ⟨o5, z5, z6⟩ := dk5 e o4 z3
   obtain ⟨o6, z7, z8⟩ := dk6 e o5 z5
   obtain ⟨o, vs, he, hc, hv⟩ := IE
   have e6 := he.symm.trans z7
   cases e6
   exact ⟨_, vs, he, hc, hv, fun dx z => z8.trans (z6.trans (z4.trans (z2 dx z)))⟩
  have J7 : Inv X pins σ (upd H' e (excD e C od)) { s' with heap := h6 } := by
   refine J6.track hne (fun b u q hx => ?_) ?_ (fun y c q => ?_) (fun p hp => ?_) (excD_ok ID)
   ·obtain ⟨o1, q1⟩ := I1.base.there b u q hx
    exact ne b o1 q1
   ·obtain ⟨m, ⟨oL, es, ep, hoL, hdL, _⟩, _⟩ := J6.loc
    exact nf _ _ hoL fun vs q => by rw [hdL] at q; cases q
   ·obtain ⟨v, oc, hoc, hdc⟩ := J6.cell y c q
    exact nf _ _ hoc fun vs q => by rw [hdc] at q; cases q
   ·obtain ⟨q1, _⟩ := I1.pin p (List.mem_append_left _ hp)
    exact ne _ _ q1
  refine store_ok (X := X.suite (.ref e)) (v := .ref e) J7.suite hN hi (.inl hl) rfl (fun s7 J8 => ?_) (.inr hl)
  refine wpAny_mono (hh (.ref e) pins s7 _ _ (goneEnds D i) J8 (hth e hne)) (fun fl s8 q => ?_) fun _ _ z => False.elim z
  match fl, q with
  | .next, ⟨σ', H'', J9, q⟩ => exact gone_ok (J9.unsuite I.ok) hN hi hl fun s9 Jz => ⟨_, _, Jz, q⟩
  | .brk, ⟨σ', H'', J9, q⟩ => exact gone_ok (J9.unsuite I.ok) hN hi hl fun s9 Jz => ⟨_, _, Jz, q⟩
  | .cont, ⟨σ', H'', J9, q⟩ => exact gone_ok (J9.unsuite I.ok) hN hi hl fun s9 Jz => ⟨_, _, Jz, q⟩
  | .ret u, ⟨v, σ', H'', J9, r, q⟩ => exact gone_ok (J9.unsuite I.ok) hN hi hl fun s9 Jz => ⟨v, _, _, Jz, r, q⟩
 refine wpAny_mono (hb _ _ _ _ hp [] s σ H D I.tryIn h) (fun fl s1 q => ?_) fun _ _ z => z
 have q := SP.tryOut q
 match fl, q with
 | .next, ⟨σ', H', J, q⟩ => exact pss_nil pins s1 σ' H' D J q
 | .brk, q => exact q
 | .cont, q => exact q
 | .ret u, q => exact q
end
end L2
namespace L2
open PySem PySem.Spec PyProof.Rows
section
variable {P : Program} {w : World} {K : PySem.W.Frag} {mg : Str → Option Value} {base : Heap} {x qual : Str} {st : Stmt} {f : Addr} {fd : FuncData} {N ps : List Str} {k : Nat} {sp : Sp}
theorem okE (F : Fun K x qual st f fd) (S : FnScope N ps (defScope st)) (len : ∀ vs H Q E, sp vs H Q E → vs.length = ps.length)
  (hb : ∀ (cdv : Value) (A : Around) (outer : List Env) (s : Shared) (H : Hp) (vs : List V) (Q : VK) (E : XK), Room k (A.deeper (envOfC qual (defScope st) s.heap.objs.size f cdv)) → sp vs H Q E →
   ∃ t, PSs (cxOf (CXE P w) P w K mg base N qual (defScope st) f cdv A outer s H E) (defBody st) t ∧ t { nx := fun _ H' => Q .non H', rt := Q } (start N vs) H) : FnOk P w K mg base (CXE P w) (k + 1) f fd ps sp := by
 have e := F.ex
 obtain ⟨oc, od, kV, doc, pm, an, cdv, ct, osl, e, lk, hcd⟩ := e
 subst e
 exact fn_of lk hcd S len (hb cdv)
theorem okN (F : Fun K x qual st f fd) (S : FnScope N ps (defScope st)) (len : ∀ vs H Q E, sp vs H Q E → vs.length = ps.length)
  (hb : ∀ (cdv : Value) (A : Around) (outer : List Env) (s : Shared) (H : Hp) (vs : List V) (Q : VK) (E : XK), Room k (A.deeper (envOfC qual (defScope st) s.heap.objs.size f cdv)) → sp vs H Q E →
   ∃ t, PSs (cxOf (CXE P w) P w K mg base N qual (defScope st) f cdv A outer s H E).nox (defBody st) t ∧ t { nx := fun _ H' => Q .non H', rt := Q } (start N vs) H) : FnOk P w K mg base (CXE P w) (k + 1) f fd ps sp :=
 okE F S len fun cdv A outer s H vs Q E hr h => by
  obtain ⟨t, h1, h2⟩ := hb cdv A outer s H vs Q E hr h
  exact ⟨t, h1.nox, h2⟩
end
theorem boot_ValueError : bootBuiltins "ValueError" = some (.type "ValueError") := by decide +kernel
theorem rIsiX_c {K : PySem.W.Frag} {a C D : Addr} {od : Option Addr} {b : Bool} {H : Hp} {Q : VK} (h1 : H a = some (excD a C od)) (h2 : ExcB K C) (h3 : PySem.W.kitOne K (.ref C) (.ref D) = some b) (h4 : Q (.bl b) H) : rIsiX K [.ref a, .ref D] H Q := ⟨a, C, od, rfl, h1, h2, .inl ⟨D, b, rfl, h3, h4⟩⟩
theorem rIsiX_t {K : PySem.W.Frag} {a C : Addr} {od : Option Addr} {T : String} {b : Bool} {H : Hp} {Q : VK} (h1 : H a = some (excD a C od)) (h2 : ExcB K C) (h3 : PySem.W.kitOne K (.ref C) (.type T) = some b) (h4 : Q (.bl b) H) : rIsiX K [.ref a, .ty T] H Q := ⟨a, C, od, rfl, h1, h2, .inr ⟨T, b, rfl, h3, h4⟩⟩
end L2
set_option Elab.async false
set_option linter.all false
set_option maxRecDepth 100000
set_option Elab.async false
set_option linter.all false
set_option maxRecDepth 100000
set_option Elab.async false
set_option linter.all false
set_option maxRecDepth 100000
namespace L2
open PySem PySem.Spec PyProof.Rows
noncomputable def tRaise0 (C : Addr) (E : XK) : TS := fun _ _ H => E (.ref C) none H
section
variable {X : Cx} {E : XK} {C : Addr} {x : Str} {np cpos pos : Pos}
theorem ps_raise0 {K : PySem.W.Frag} (hK : X.K = K) (hM : MadeOk X E) (T : ExcC K C) (hg : Gl X x) (hm : X.mg x = some (.ref C)) (hc : X.calm = true := by rfl) (hdb : (x == ("__debug__" : Str)) = false := by decide) :
  PS X (.Raise (some (.Call (.Name x np) [] [] cpos)) none pos) (tRaise0 C E) := by
 subst hK
 intro pins s σ H D I h
 obtain ⟨bm, N, nm, qn, bs, hd, sn, sub, ab, col, dd, k0, k1, k2, k3, k5, mN, hC, hn, hni, OT⟩ := exc_obj I.ok.mod.kin T.exc
 refine wpAny_Raise_call_subT (C := C) (N := N) (nm := nm) (q := qn) (bs := bs) (bm := bm) (hdct := hd) (sn := sn) (sub := sub) (ab := ab) (col := col) (dd := dd) (k0 := k0) (k1 := k1) (k2 := k2) (k3 := k3) (k5 := k5) (mN := mN) F.excBase_ValueError (OT.hasType (by decide +kernel)) (I.ok.hd hc) rfl hni ?_
 refine ld_glob I hg hm ⟨rfl, ?_⟩ hdb
 show wpAny _ _ (evalArgs (.ref C) true [] []) _ _ _
 refine PyProof.Rows.evalArgs_nil3 ⟨rfl, Nat.zero_le _, I.bk _ _ hC, hn.keeps I.bk, OT.keeps I.bk, fun h' e' hm' => ?_⟩
 exact hM pins σ H s e' C [] h' I hm' h
end
end L2
set_option Elab.async false
set_option linter.all false
set_option maxRecDepth 100000
open PySem PySem.Spec PyProof.Rows
namespace L2
noncomputable abbrev veB : List Value := [.type "ValueError", .type "Exception", .type "BaseException", .type "object"]
theorem made_two {h : Heap} {C : Addr} {rest : List Value} : h.MadeExcOf ((h.push { cls := .type "tuple", data := .seq rest.toArray }).push
   { cls := .ref C, data := .fields #[.ref h.objs.size, .none, .none, .none, .bool false, .none] }) (h.objs.size + 1) (.ref C) rest := by
 have e1 : (h.push { cls := .type "tuple", data := .seq rest.toArray }).objs.size = h.objs.size + 1 := Heap.size_push _ _
 refine ⟨fun b o e => Heap.get?_push_of_some _ (Heap.get?_push_of_some _ e), Heap.get?_none_of_le (Nat.le_succ _), h.objs.size, ?_, Heap.get?_none_of_le (Nat.le_refl _), ?_⟩
 ·rw [← e1]
  exact Heap.get?_push_size _ rfl
 ·exact Heap.get?_push_of_some _ (Heap.get?_push_size _ rfl)
theorem type_call_init {prog : Program} {w : World} {A : Around} {E : Value → Shared → Prop} {h : Heap} {g : Array GenState} {d : Drawn} {t : Nat} {os : OsState} {nm q : Str} {C N : Addr} {bs bm : List Value} {hdct : Bool} {sn : List Str} {sub : List Value} {ab : Bool} {col : Option Bool}
  {dd : Option Addr} {k0 k1 k2 k3 k5 : Option Value} (OT : OwnTail h veB bm) {mN : Str → Option Value} {rest : List Value} {fI : Addr} {oI : Obj} {Q : PySem.Fin → Shared → Prop}
  (hC : h.get? C = some (excClassObj nm q C N bs bm hdct sn sub ab col dd k0 k1 k2 k3 k5 "ValueError.__new__")) (hN : h.Ns N mN) (hi : mN "__init__" = some (.ref fI)) (hf : h.get? fI = some oI) (hcf : oI.cls = .type "function")
  (hq : ∀ (h' : Heap) (e : Addr), h.MadeExcOf h' e (.ref C) rest → wpAny (model prog w) A (call (.ref fI) (.ref e :: rest)) (fun r s' => r = .none ∧ Q (.done (.ret (.ref e))) s') E ⟨h', g, d, t, os⟩)
  (hl : rest.length ≤ sizeLine) : wpAny (model prog w) A (Builtin.«type.__call__» ⟨.ref C :: rest, []⟩) Q E ⟨h, g, d, t, os⟩ := by
 have hne : (Value.ref C == Value.type "type") = false := by rfl
 have FB := F.excBase_ValueError
 unfold Builtin.«type.__call__»
 dsimp only
 rw [hne, if_neg Bool.false_ne_true]
 refine wpAny_bind (wpAny_mroOf_exc hC ?_)
 rw [if_neg (by simp)]
 refine wpAny_bind (wpAny_madeBy_exc hC ?_)
 refine wpAny_bind (wpAny_pure ?_)
 refine wpAny_bind (wpAny_holding ?_)
 refine wpAny_call (codeAny_call_builtin_code (Code.quiet_builtin _ (by decide +kernel)) ?_)
 refine wpAny_check_new_subT FB OT hC ?_
 refine codeAny_exc_new_subT FB OT hC ?_ hl
 have M := made_two (h := h) (C := C) (rest := rest)
 have hC2 := M.keeps _ _ hC
 have OT2 := OT.keeps M.keeps
 have hN2 := hN.keeps M.keeps
 obtain ⟨t0, he, ht0, htt⟩ := M.there
 dsimp only
 refine wpAny_bind ?_
 unfold isInstance
 refine wpAny_bind ?_
 have L0 : PySem.W.Looks (model prog w) _ (typeOf (.ref (h.objs.size + 1))) (.ref C) := (PySem.W.Looks.ld he).andThen .now
 refine L0.at ?_
 refine wpAny_isSubtype_exc hC2 ?_
 rw [show (Value.ref C :: bm).contains (Value.ref C) = true by simp, if_neg (by decide)]
 refine wpAny_bind (wpAny_holding ?_)
 unfold callSpecial? specialOf
 refine wpAny_bind (wpAny_bind (L0.at ?_))
 refine wpAny_typeLookup_tail hC2 hN2 OT2 FB.mroIs FB.init.lookup ?_
 rw [hi]
 dsimp only
 refine wpAny_holding ?_
 unfold bindSpecial
 have L1 : PySem.W.Looks (model prog w) _ (typeOf (.ref fI)) oI.cls := (PySem.W.Looks.ld (M.keeps _ _ hf)).andThen .now
 refine wpAny_bind (wpAny_bind (L1.at ?_))
 rw [hcf]
 refine wpAny_pure ?_
 refine wpAny_bind ?_
 refine wpAny_mono (hq _ _ M) (fun r s' hr => ?_) fun _ _ z => z
 obtain ⟨rfl, hr⟩ := hr
 exact wpAny_pure (wpAny_pure hr)
end L2
namespace L2
variable {prog : Program} {w : World} {A : Around} {E : Value → Shared → Prop} {h : Heap} {g : Array GenState} {d : Drawn} {t : Nat} {os : OsState} {nm q : Str} {C N : Addr} {bs bm : List Value} {hdct : Bool} {sn : List Str} {sub : List Value} {ab : Bool} {col : Option Bool}
  {dd : Option Addr} {k0 k1 k2 k3 k5 : Option Value}
theorem call_init (OT : OwnTail h veB bm) {mN : Str → Option Value} {rest : List Value} {fI : Addr} {oI : Obj} {Q : Value → Shared → Prop}
  (hC : h.get? C = some (excClassObj nm q C N bs bm hdct sn sub ab col dd k0 k1 k2 k3 k5 "ValueError.__new__")) (hN : h.Ns N mN) (hi : mN "__init__" = some (.ref fI)) (hf : h.get? fI = some oI) (hcf : oI.cls = .type "function")
  (hq : ∀ (h' : Heap) (e : Addr), h.MadeExcOf h' e (.ref C) rest → wpAny (model prog w) (A.under (.builtin "type.__call__" ⟨.ref C :: rest, []⟩)) (call (.ref fI) (.ref e :: rest)) (fun r s' => r = .none ∧ Q (.ref e) s') E ⟨h', g, d, t, os⟩)
  (hl : rest.length ≤ sizeLine) : wpAny (model prog w) A (call (.ref C) rest) Q E ⟨h, g, d, t, os⟩ := by
 refine wpAny_call (codeAny_of_tree ?_)
 show wpAny _ _ (callAny (.ref C) ⟨rest, []⟩) _ _ _
 unfold callAny
 dsimp only
 refine wpAny_bind (wpAny_load hC ?_)
 dsimp only
 unfold callAny.viaDunder
 have L0 : PySem.W.Looks (model prog w) h (typeOf (.ref C)) (.type "type") := (PySem.W.Looks.ld hC).andThen .now
 refine wpAny_bind ?_
 unfold specialOf
 refine wpAny_bind (L0.at ?_)
 rw [tc_lookup]
 refine wpAny_pure ?_
 dsimp only
 rw [tc_bind]
 refine wpAny_bind (wpAny_pure ?_)
 dsimp only
 have hp : callAny.plainCallee (.builtin "type.__call__") = pure true := by rfl
 rw [hp]
 refine wpAny_bind (wpAny_pure ?_)
 rw [if_pos rfl]
 refine wpAny_pure ⟨rfl, ?_⟩
 refine codeAny_call_builtin_code (Code.quiet_builtin _ (by decide +kernel)) ?_
 refine wpAny_check_type_call_sub hC ?_
 refine codeAny_builtin entry_typeCall ?_
 refine type_call_init OT hC hN hi hf hcf (fun h' e M => ?_) hl
 exact wpAny_mono (hq h' e M) (fun r s' hr => ⟨hr.1, hr.2⟩) fun _ _ z => z
end L2
set_option Elab.async false
set_option linter.all false
set_option maxRecDepth 100000
open PySem PySem.Spec PyProof.Rows
namespace L2
noncomputable abbrev veInit : Value := .builtin "ValueError.__init__"
theorem wd_type : typeOf veInit = pure (.type "wrapper_descriptor") := by
 show builtinType "ValueError.__init__" = _
 unfold builtinType
 have h1 : withoutEnding? "ValueError.__init__" "#opaque" = none := by decide +kernel
 have h2 : withoutEnding? "ValueError.__init__" "#data" = none := by decide +kernel
 have h3 : builtinKind "ValueError.__init__" = some .slot := by decide +kernel
 rw [h1, h2, h3]
 rfl
theorem wd_find : fastLookup "wrapper_descriptor" "__get__" = some (some (.builtin "wrapper_descriptor.__get__")) := by decide +kernel
theorem wd_entry : entryFor table "wrapper_descriptor.__get__" = some Builtin.«wrapper_descriptor.__get__» := entryFor_of_tree (by kernel_rfl)
theorem wd_plain : plainId "wrapper_descriptor.__get__" = true := by decide +kernel
theorem wd_args (a b c : Value) : argsOk "wrapper_descriptor.__get__" { pos := [a, b, c] } := by kernel_rfl
theorem wd_kind : builtinKind "wrapper_descriptor.__get__" = some .slot := by decide +kernel
theorem wd_split : splitId "wrapper_descriptor.__get__" = some ("wrapper_descriptor", "__get__") := by decide +kernel
theorem wd_self : isInstance veInit (.type "wrapper_descriptor") = pure true := by
 unfold isInstance
 rw [wd_type]
 kernel_rfl
section
variable {prog : Program} {w : World} {A : Around} {E : Value → Shared → Prop} {h : Heap} {g : Array GenState} {d : Drawn} {t : Nat} {os : OsState} {e C : Addr} {oe : Obj}
theorem wpAny_eq_pure {α : Type} {M : Model} {x : Sem α} {a : α} {Q : α → Shared → Prop} {s : Shared} (h : x = pure a) (q : Q a s) : wpAny M A x Q E s := h ▸ wpAny_pure q
theorem wd_run {Q : Value → Shared → Prop} (hoe : h.get? e = some oe) (hce : oe.cls = .ref C) (hs : PySem.W.Looks (model prog w) h (isSubtype (.ref C) (.type "ValueError")) true)
  (hq : Q (.ref h.objs.size) ⟨h.push { cls := .type "method-wrapper", data := .fields #[veInit, .ref e] }, g, d, t, os⟩) :
  wpAny (model prog w) A (call (.builtin "wrapper_descriptor.__get__") [veInit, .ref e, .ref C]) Q E ⟨h, g, d, t, os⟩ := by
 refine wpAny_call (codeAny_call_builtin wd_plain wd_entry ?_)
 simp only [checkBuiltinCall, wd_kind, wd_split]
 refine wpAny_bind ?_
 rw [wd_self]
 refine wpAny_pure ?_
 rw [if_neg (by decide)]
 refine wpAny_eq_pure (wd_args veInit (.ref e) (.ref C)) ?_
 unfold Builtin.«wrapper_descriptor.__get__»
 refine wpAny_bind (wpAny_pure ?_)
 dsimp only
 have hcut : ".".intercalate ("ValueError.__init__".cutAt '.').dropLast = "ValueError" := by decide +kernel
 have hs' : PySem.W.Looks (model prog w) h (isSubtype oe.cls (Value.type (".".intercalate ("ValueError.__init__".cutAt '.').dropLast))) true := by
  rw [hcut, hce]
  exact hs
 refine fun Γ p hΓ => ⟨oe, hoe, ?_⟩
 refine (wpAny_bind (wpAny_bind (hs'.at ?_)) : wpAny (model prog w) A.in1 ((isSubtype oe.cls (Value.type (".".intercalate ("ValueError.__init__".cutAt '.').dropLast)) >>= _) >>= _) _ _ ⟨h, g, d, t, os⟩) Γ p hΓ
 rw [if_neg (by decide)]
 refine wpAny_pure ?_
 refine wpAny_bind ?_
 show wpAny (model prog w) A.in1 (newObj (.type "method-wrapper") (.fields #[veInit, .ref e])) _ _ _
 refine wpAny_newObj_type ?_ (by show 2 ≤ _; decide)
 exact wpAny_pure hq
end
end L2
namespace L2
section
variable {prog : Program} {w : World} {A : Around} {E : Value → Shared → Prop} {h : Heap} {g : Array GenState} {d : Drawn} {t : Nat} {os : OsState} {e C so : Addr} {oe : Obj} {K : PySem.W.Frag}
 {nm q : Str} {N : Addr} {bs bm : List Value} {hdct : Bool} {sn : List Str} {sub : List Value} {ab : Bool} {col : Option Bool} {dd : Option Addr} {k0 k1 k2 k3 k5 : Option Value} {nid : String}
theorem super_ga {tk : Tok} {Q : PySem.Fin → Shared → Prop} (X : K.In h) (hso : h.get? so = some { cls := .type "super", data := .fields #[.ref C, .ref e, .ref C] }) (hC : h.get? C = some (excClassObj nm q C N bs bm hdct sn sub ab col dd k0 k1 k2 k3 k5 nid))
  (hal : PySem.W.alongIn K "__init__" bm = some (some veInit)) (hop : PySem.W.Looks (model prog w) h (opaqueClassAbove (.ref C)) none) (hoe : h.get? e = some oe) (hce : oe.cls = .ref C) (hs : PySem.W.Looks (model prog w) h (isSubtype (.ref C) (.type "ValueError")) true) (hne : e ≠ C)
  (hq : Q (.done (.ret (.ref h.objs.size))) ⟨h.push { cls := .type "method-wrapper", data := .fields #[veInit, .ref e] }, g, d, t, os⟩) :
  wpAny (model prog w) A (Builtin.«super.__getattribute__» ⟨[.ref so, .str "__init__" tk], []⟩) Q E ⟨h, g, d, t, os⟩ := by
 unfold Builtin.«super.__getattribute__»
 dsimp only [asStr?]
 refine wpAny_bind (wpAny_pure ?_)
 rw [if_neg (by decide)]
 refine wpAny_bind (wpAny_pure ?_)
 dsimp only
 refine wpAny_bind (wpAny_field (x := .ref C) hso rfl rfl ?_)
 refine wpAny_bind (wpAny_field (x := .ref e) hso rfl rfl ?_)
 refine wpAny_bind (wpAny_field (x := .ref C) hso rfl rfl ?_)
 rw [if_neg (by rw [show (Value.ref C == Value.none) = false from rfl]; decide)]
 refine wpAny_bind (ks_wpAny_notOpaque hop ?_)
 rw [if_neg (by rw [show (Value.ref C == Value.type "module") = false from rfl]; decide)]
 refine wpAny_bind (wpAny_mroOf_exc hC ?_)
 have hdr : List.drop 1 (List.dropWhile (fun x => x != Value.ref C) (Value.ref C :: bm)) = bm := by
  rw [List.dropWhile_cons, if_neg (by simp)]
  rfl
 rw [hdr]
 refine wpAny_bind ?_
 refine ks_forIn_along X (fun _ _ => rfl) rfl ?_ hal
 dsimp only
 rw [wd_type]
 refine wpAny_bind (wpAny_pure ?_)
 have L1 : PySem.W.Looks (model prog w) h (typeLookup (.type "wrapper_descriptor") "__get__") (some (.builtin "wrapper_descriptor.__get__")) := PySem.W.looks_findIn X wd_find
 refine wpAny_bind (L1.at ?_)
 dsimp only
 have hb : (Value.ref e == Value.ref C) = false := by
  simpa using hne
 rw [hb, if_neg Bool.false_ne_true]
 refine wpAny_bind (wpAny_holding (wd_run hoe hce hs ?_))
 exact wpAny_bind (wpAny_pure (wpAny_pure (wpAny_pure hq)))
theorem super_meth {pl : Sem Bool} {Q : Value × List Value → Shared → Prop} (X : K.In h) (hso : h.get? so = some { cls := .type "super", data := .fields #[.ref C, .ref e, .ref C] }) (hC : h.get? C = some (excClassObj nm q C N bs bm hdct sn sub ab col dd k0 k1 k2 k3 k5 nid))
  (hal : PySem.W.alongIn K "__init__" bm = some (some veInit)) (hop : PySem.W.Looks (model prog w) h (opaqueClassAbove (.ref C)) none) (hoe : h.get? e = some oe) (hce : oe.cls = .ref C) (hs : PySem.W.Looks (model prog w) h (isSubtype (.ref C) (.type "ValueError")) true) (hne : e ≠ C)
  (hq : Q (.ref h.objs.size, []) ⟨h.push { cls := .type "method-wrapper", data := .fields #[veInit, .ref e] }, g, d, t + 1, os⟩) :
  wpAny (model prog w) A (getMethod (.ref so) "__init__" pl) Q E ⟨h, g, d, t, os⟩ := by
 have L0 : PySem.W.Looks (model prog w) h (typeOf (.ref so)) (.type "super") := (PySem.W.Looks.ld hso).andThen .now
 unfold getMethod specialOf
 refine wpAny_bind (wpAny_bind (L0.at ?_))
 refine wpAny_eq_pure F.ks_slot_super_ga.lookup ?_
 dsimp only
 rw [if_pos F.ks_canon_super_ga]
 unfold getAttr
 refine wpAny_bind (wpAny_bind (wpAny_mkText ?_))
 unfold getAttrBy
 refine wpAny_holding (wpAny_bind (L0.at ?_))
 refine wpAny_bind (wpAny_eq_pure F.ks_slot_super_ga.lookup ?_)
 dsimp only
 rw [if_neg (by decide)]
 unfold getAttrByItsOwn hookBefore
 rw [if_neg (by decide)]
 refine wpAny_bind (wpAny_pure ?_)
 refine wpAny_bind (wpAny_attempt (wpAny_holding ?_))
 unfold callGetattribute
 rw [if_neg (by decide)]
 unfold boundAndCalled
 rw [F.ks_slot_super_ga.bind]
 refine wpAny_bind (wpAny_pure ?_)
 refine wpAny_call_entry F.ks_slot_super_ga ⟨_, hso, rfl⟩ F.ks_entry_super_ga ?_ (F.ks_gaArgs_super _ _)
 refine super_ga X hso hC hal hop hoe hce hs hne ?_
 exact ⟨_, rfl, wpAny_pure (wpAny_pure hq)⟩
end
end L2
namespace L2
section
variable {prog : Program} {w : World} {A : Around} {E : Value → Shared → Prop} {h : Heap} {g : Array GenState} {d : Drawn} {t : Nat} {os : OsState} {e C so : Addr} {oe : Obj} {K : PySem.W.Frag}
theorem printed_ok {e C : Addr} {oe oC : Obj} {cdC : ClassData} {b : Bool} {full short : String} {mc : Manifest.Machinery} {ps : List Manifest.Param} {Q : String → Shared → Prop} (hC : h.get? C = some oC) (hcC : oC.data = .cls cdC) (hoe : h.get? e = some oe) (hce : oe.cls = .ref C)
  (hq : ∀ x, Q x ⟨h, g, d, t, os⟩) : wpAny (model prog w) A (Bind.printed "*" b { machinery := mc, full := full, short := short, receiver := .self, params := ps } (some (.ref e))) Q E ⟨h, g, d, t, os⟩ := by
 have L0 : PySem.W.Looks (model prog w) h (typeOf (.ref e)) (.ref C) := hce ▸ (PySem.W.Looks.ld hoe).andThen .now
 unfold Bind.printed
 rw [if_neg (by decide)]
 dsimp only
 unfold Bind.receiverType
 dsimp only
 rw [if_neg (by decide)]
 refine wpAny_bind (L0.at ?_)
 unfold typeNameWhole classData
 refine wpAny_bind (wpAny_bind (wpAny_bind (wpAny_load hC ?_)))
 rw [hcC]
 exact wpAny_pure (wpAny_pure (wpAny_pure (hq _)))
theorem mw_call {mw e t0 : Addr} {arg : Value} {C : Addr} {oC : Obj} {cdC : ClassData} (hC : h.get? C = some oC) (hcC : oC.data = .cls cdC) {Q : Value → Shared → Prop} (hmw : h.get? mw = some { cls := .type "method-wrapper", data := .fields #[veInit, .ref e] }) (hoe : h.get? e = some { cls := .ref C, data := .fields #[.ref t0, .none, .none, .none, .bool false, .none] })
  (hq : ∀ h', (∀ b o, b ≠ e → h.get? b = some o → h'.get? b = some o) → h'.get? e = some { cls := .ref C, data := .fields #[.ref h.objs.size, .none, .none, .none, .bool false, .none] } → h.objs.size ≤ h'.objs.size → Q .none ⟨h', g, d, t, os⟩) :
  wpAny (model prog w) A (call (.ref mw) [arg]) Q E ⟨h, g, d, t, os⟩ := by
 have FB := F.excBase_ValueError
 refine wpAny_call (codeAny_of_tree ?_)
 show wpAny _ _ (callAny (.ref mw) ⟨[arg], []⟩) _ _ _
 unfold callAny
 dsimp only
 refine wpAny_bind (wpAny_load hmw ?_)
 dsimp only
 rw [if_pos (by decide)]
 show wpAny _ _ (do
  checkBoundCall "ValueError.__init__" ⟨[.ref e, arg], []⟩
  again (.builtin "ValueError.__init__" ⟨[.ref e, arg], []⟩)) _ _ _
 refine wpAny_bind ?_
 unfold checkBoundCall
 rw [FB.initRow]
 dsimp only
 rw [FB.initKind]
 dsimp only
 rw [if_pos (by decide)]
 refine wpAny_mono (?_ : wpAny _ _ _ (fun _ s' => s' = ⟨h, g, d, t, os⟩) _ _) ?k (fun _ _ z => z)
 case k =>
  rintro _ _ rfl
  refine wpAny_pure ⟨Code.quiet_builtin _ (by decide +kernel), ?_⟩
  refine codeAny_builtin FB.initEntry ?_
  unfold Builtin.«BaseException.__init__»
  dsimp only
  rw [if_neg (by decide)]
  refine wpAny_bind (wpAny_newTuple ?_ (by show 1 ≤ _; decide))
  unfold Builtin.BaseException.bexcPut
  have h1 := Heap.get?_push_of_some ({ cls := Value.type "tuple", data := Data.seq #[arg] } : Obj) hoe
  refine wpAny_bind (wpAny_bind (wpAny_field (x := .ref t0) h1 rfl rfl ?_))
  refine wpAny_bind (wpAny_setField h1 rfl (by show 0 < 6; decide) ?_)
  dsimp only
  unfold letGo
  refine wpAny_bind (wpAny_point ?_)
  unfold letGo
  refine wpAny_pure (wpAny_pure (hq _ (fun b o hb q => Heap.get?_update_of_ne _ (Ne.symm hb) (Heap.get?_push_of_some _ q)) ?_ ?_))
  ·rw [Heap.get?_update_self _ h1]
   ·rfl
   ·rfl
  ·rw [Heap.size_update, Heap.size_push]
   exact Nat.le_succ _
 unfold Bind.checkArgs
 dsimp only
 refine wpAny_bind (printed_ok hC hcC hoe rfl fun x => ?_)
 refine wpAny_bind (wpAny_pure ?_)
 exact wpAny_onRaise (wpAny_eq_pure (check_star_args _ _ _ _ _ _) rfl)
end
end L2
namespace L2
section
variable {prog : Program} {w : World} {A : Around} {E : Value → Shared → Prop} {h : Heap} {g : Array GenState} {d : Drawn} {t : Nat} {os : OsState} {env : Env}
theorem cw_const {mw e : Addr} {x : Str} {n : Nat} {q pos : Pos} {Q : Value → Shared → Prop} (hmw : h.get? mw = some { cls := .type "method-wrapper", data := .fields #[veInit, .ref e] })
  (hq : ∀ tk, wpAny (model prog w) A (call (.ref mw) [.str x tk]) Q E ⟨h, g, d, t + 1, os⟩) :
  wpAny (model prog w) A (callWith pos (.ref mw) [] (backTo pos (starEach [.Constant (.str x) n q] env)) []) Q E ⟨h, g, d, t, os⟩ := by
 unfold callWith
 refine wpAny_bind (wpAny_holding ?_)
 show wpAny _ _ (evalArgs (.ref mw) true [(false, eval (.Constant (.str x) n q) env)] []) _ _ _
 refine Calls.evalArgs_plain ?_
 refine Calls.spliced_cons (Calls.Constant_str ?_)
 refine Calls.spliced_nil ?_
 refine wpAny_bind (wpAny_standAt ?_)
 refine wpAny_bind ?_
 unfold keeperOf
 refine wpAny_bind (wpAny_load hmw ?_)
 dsimp only
 refine wpAny_pure ?_
 show wpAny _ _ (do
  let r ← call (.ref mw) [.str x t]
  holding [r] point
  pure r) _ _ _
 refine wpAny_bind (wpAny_mono (hq t) (fun r s' hr => ?_) fun _ _ z => z)
 exact wpAny_bind (wpAny_holding (wpAny_point (wpAny_pure hr)))
end
end L2
namespace L2
section
variable {prog : Program} {w : World} {A : Around} {E : Value → Shared → Prop} {h : Heap} {g : Array GenState} {d : Drawn} {t : Nat} {os : OsState} {env : Env} {K : PySem.W.Frag} {e C : Addr} {vs : Array Value}
 {nm q : Str} {N : Addr} {bs : List Value} {D : Addr} {sn : List Str} {sub : List Value} {ab : Bool} {col : Option Bool} {dd : Option Addr} {k0 k1 k2 k3 k5 : Option Value} {nid : String}
theorem b1 : builtinOwn "ValueError" "__setattr__" = none := by decide +kernel
theorem b2 : builtinOwn "Exception" "__setattr__" = none := by decide +kernel
theorem b3 : builtinOwn "BaseException" "__setattr__" = none := by decide +kernel
theorem b4 : builtinOwn "object" "__setattr__" = some (.builtin "object.__setattr__") := by decide +kernel
theorem b5 : Builtin.ObjectAttr.isObjects "object" (Str.toString "__setattr__") = true := by decide +kernel
theorem refuse_ok {Q : Unit → Shared → Prop} (X : K.In h) (hC : h.get? C = some (excClassObj nm q C N bs (.ref D :: veB) true sn sub ab col dd k0 k1 k2 k3 k5 nid)) (hoe : h.get? e = some { cls := .ref C, data := .fields vs }) (hq : Q () ⟨h, g, d, t, os⟩) :
  wpAny (model prog w) A (Builtin.ObjectAttr.refuseIfOverridden (.ref e) "__setattr__") Q E ⟨h, g, d, t, os⟩ := by
 have L0 : PySem.W.Looks (model prog w) h (typeOf (.ref e)) (.ref C) := (PySem.W.Looks.ld hoe).andThen .now
 unfold Builtin.ObjectAttr.refuseIfOverridden
 refine wpAny_bind (L0.at (wpAny_bind (wpAny_mroOf_exc hC ?_)))
 refine wpAny_bind ?_
 rw [List.forIn_cons]
 refine wpAny_bind (wpAny_pure ?_)
 dsimp only
 rw [List.forIn_cons]
 refine wpAny_bind (wpAny_pure ?_)
 dsimp only
 rw [List.forIn_cons]
 dsimp only
 rw [if_neg (by decide), if_neg (by decide)]
 unfold classOwn
 dsimp only
 rw [b1]
 refine wpAny_bind (wpAny_bind (wpAny_pure ?_))
 rw [if_neg (by decide)]
 refine wpAny_pure ?_
 dsimp only
 rw [List.forIn_cons]
 dsimp only
 rw [if_neg (by decide), if_neg (by decide), b2]
 refine wpAny_bind (wpAny_bind (wpAny_pure ?_))
 rw [if_neg (by decide)]
 refine wpAny_pure ?_
 dsimp only
 rw [List.forIn_cons]
 dsimp only
 rw [if_neg (by decide), if_neg (by decide), b3]
 refine wpAny_bind (wpAny_bind (wpAny_pure ?_))
 rw [if_neg (by decide)]
 refine wpAny_pure ?_
 dsimp only
 rw [List.forIn_cons]
 dsimp only
 rw [if_neg (by decide), if_neg (by decide), b4]
 refine wpAny_bind (wpAny_bind (wpAny_pure ?_))
 rw [if_pos (by rfl), b5, if_neg (by decide)]
 refine wpAny_pure ?_
 dsimp only
 exact wpAny_pure (wpAny_pure hq)
theorem exc_setattr {v : Value} {Q : Unit → Shared → Prop} (X : K.In h) (hC : h.get? C = some (excClassObj nm q C N bs (.ref D :: veB) true sn sub ab col dd k0 k1 k2 k3 k5 nid)) (hoe : h.get? e = some { cls := .ref C, data := .fields vs })
  (hst : PySem.W.findIn K (.ref C) "__setattr__" = some (some (.builtin "object.__setattr__"))) (hat : PySem.W.findIn K (.ref C) "at" = some none) (hob : PySem.W.mroIn K C (.type "object") = some true)
  (hq : ∀ (h' : Heap) (t' : Nat) (dx : Addr), (∀ b o, b ≠ e → h.get? b = some o → h'.get? b = some o) → h.get? dx = none → h'.get? e = some { cls := .ref C, dict := some dx, data := .fields vs } → h'.Ns1 dx (fun x => if x = "at" then some v else none) → Q () ⟨h', g, d, t', os⟩) :
  wpAny (model prog w) A (setAttr (.ref e) "at" v) Q E ⟨h, g, d, t, os⟩ := by
 have L0 : PySem.W.Looks (model prog w) h (typeOf (.ref e)) (.ref C) := (PySem.W.Looks.ld hoe).andThen .now
 have L1 := PySem.W.looks_findIn (M := model prog w) X hst
 have L2 := PySem.W.looks_findIn (M := model prog w) X hat
 have L3 := PySem.W.looks_mroIn (M := model prog w) X hob
 unfold setAttr
 refine wpAny_bind (wpAny_mkText ?_)
 refine wpAny_bind ?_
 unfold callSpecial? specialOf
 refine wpAny_bind (wpAny_bind (L0.at (L1.at ?_)))
 refine wpAny_holding ?_
 rw [F.slot_object_setattr.bind]
 refine wpAny_bind (wpAny_pure ?_)
 refine wpAny_bind (wpAny_call (codeAny_call_builtin F.slot_object_setattr.plain F.entry_object_setattr ?_))
 simp only [checkBuiltinCall, F.bk_object_setattr, F.sp_object_setattr]
 unfold isInstance
 refine wpAny_bind (wpAny_bind (L0.at (L3.at ?_)))
 rw [if_neg (by decide)]
 refine wpAny_eq_pure (F.args_object_setattr_3 _ _ _) ?_
 unfold Builtin.«object.__setattr__»
 dsimp only
 rw [if_neg (by decide)]
 dsimp only [List.cons_append, List.nil_append]
 refine wpAny_bind (refuse_ok X hC hoe ?_)
 refine wpAny_bind (wpAny_pure ?_)
 refine wpAny_bind (L0.at (wpAny_bind (L2.at ?_)))
 refine wpAny_bind (wpAny_pure ?_)
 dsimp only
 unfold Builtin.ObjectAttr.storeInOwnDict
 refine wpAny_bind (wpAny_pure ?_)
 rw [if_neg (by rw [show (Value.ref C == Value.type "module") = false from rfl]; decide)]
 refine wpAny_bind ?_
 show wpAny _ _ (instanceDict e true) _ _ _
 unfold instanceDict classData
 refine wpAny_bind (wpAny_loadPart hoe ?_)
 dsimp only
 refine wpAny_bind (wpAny_bind (wpAny_load hC ?_))
 dsimp only
 refine wpAny_pure ?_
 rw [if_neg (by show ¬((!true) = true); decide), if_neg (by show ¬((!true || !true) = true); decide)]
 refine wpAny_bind (wpAny_alloc ?_)
 have h1 := Heap.get?_push_of_some ({ cls := Value.type "dict", data := Data.dict #[] } : Obj) hoe
 have h2 : (h.push { cls := Value.type "dict", data := Data.dict #[] }).get? h.objs.size = some { cls := Value.type "dict", data := Data.dict #[] } := Heap.get?_push_size _ rfl
 refine wpAny_bind (wpAny_update h1 ?_)
 refine wpAny_pure ?_
 dsimp only
 have nd : h.objs.size ≠ e := Ne.symm (Nat.ne_of_lt (Heap.lt_size hoe))
 unfold Builtin.ObjectAttr.storeInDict
 refine wpAny_bind (wpAny_pure (wpAny_bind ?_))
 have h3 := Heap.get?_update_of_ne (fun o => ({ cls := o.cls, dict := some h.objs.size, data := o.data, slots := o.slots } : Obj)) (Ne.symm nd) h2
 have n0 : ((h.push { cls := Value.type "dict", data := Data.dict #[] }).update e fun o => ({ cls := o.cls, dict := some h.objs.size, data := o.data, slots := o.slots } : Obj)).Ns1 h.objs.size (fun _ => none) := ⟨_, _, _, h3, rfl, fun z hz => by simp at hz, by unfold UniqKeys; simp, fun _ => rfl⟩
 refine wpAny_nsSet1 n0 fun h' hn2 hs2 => ?_
 obtain ⟨oD, esD, epD, hoD, hdD, hcD⟩ := hn2.count (ns := ["at"]) (PySem.Within.cons "at" v (ns := []) (fun y hy => (hy rfl).elim))
 refine wpAny_bind (wpAny_lookBehind hoD (by rw [hdD]; exact pastItsLine_dict (Nat.le_trans hcD (by decide))) ?_)
 refine wpAny_pure ?_
 dsimp only
 refine wpAny_pure ?_
 dsimp only
 refine wpAny_pure ?_
 refine hq h' _ _ (fun b o hb hbo => ?_) (Heap.get?_none_of_le (Nat.le_refl _)) ?_ hn2
 ·exact hs2.2 b (Nat.ne_of_lt (Heap.lt_size hbo)) ▸ (Heap.get?_update_of_ne _ (Ne.symm hb) (Heap.get?_push_of_some _ hbo))
 ·rw [hs2.2 e (Ne.symm nd)]
  rw [Heap.get?_update_self _ h1]
  ·rfl
end
end L2
namespace L2
noncomputable abbrev initParams (p1 p2 : Pos) : Arguments := { posonlyargs := [], args := [{ arg := "self", annotation := none, pos := p1 }, { arg := "at", annotation := none, pos := p2 }], vararg := none, kwonlyargs := [], kw_defaults := [], kwarg := none, defaults := [] }
noncomputable abbrev initScope : Scope := { kind := .function, names := [("self", .local), ("at", .local), ("__class__", .free), ("super", .globalImplicit)], isGenerator := false, isCoroutine := false, more := [] }
noncomputable abbrev initBody (x : Str) (n : Nat) (q0 q1 q2 q3 q4 q5 q6 q7 q8 q9 : Pos) : List Stmt :=
 [.Expr (.Call (.Attribute (.Call (.Name "super" q0) [] [] q1) "__init__" q2) [.Constant (.str x) n q3] [] q4) q5,
  .Assign [.Attribute (.Name "self" q6) "at" q7] (.Name "at" q8) q9]
structure ExcN (prog : Program) (K : PySem.W.Frag) (C fI : Addr) : Prop where
 cls : ∃ (nm q : Str) (N D : Addr) (bs : List Value) (sn : List Str) (sub : List Value) (ab : Bool) (col : Option Bool) (dd : Option Addr) (k0 k1 k2 k3 k5 : Option Value),
  K.lookup C = some (excClassObj nm q C N bs (.ref D :: veB) true sn sub ab col dd k0 k1 k2 k3 k5 "ValueError.__new__") ∧ PySem.W.tailIn K veB (.ref D :: veB) = true ∧ PySem.W.nsOkIn K N = true ∧ PySem.W.nsIn K N "__init__" = some (some (.ref fI)) ∧
  PySem.W.alongIn K "__init__" (.ref D :: veB) = some (some veInit)
 fn : ∃ (qual : Str) (p1 p2 : Pos) (x : Str) (n : Nat) (q0 q1 q2 q3 q4 q5 q6 q7 q8 q9 : Pos) (cc cda : Addr) (od an : Option Addr) (osl ccs cds : Array (Option Value)) (kV doc pm ct ccl cdl : Value) (ccd cdd : Option Addr) (vs : Array Value) (file : Str) (tf : Tok),
  K.lookup fI = some ⟨.type "function", od, .func (PySem.W.fnX "__init__" qual (initParams p1 p2) (initBody x n q0 q1 q2 q3 q4 q5 q6 q7 q8 q9) initScope [("__class__", cc)] .none kV doc pm an (.ref cda) ct), osl⟩ ∧
  PySem.W.codeIn K (.ref cda) qual = true ∧ K.lookup cc = some ⟨ccl, ccd, .cell (some (.ref C)), ccs⟩ ∧ K.lookup cda = some ⟨cdl, cdd, .fields vs, cds⟩ ∧ vs[2]? = some (.str file tf) ∧ (prog.main.file == file) = true ∧ (prog.main.scope.names.lookup ("super" : Str)).isSome = false ∧
  (q2.endLine == q4.line) = true
 opq : PySem.W.nsIn K cStatics "thirdparty.any" = some none
 self : PySem.W.mroIn K C (.ref C) = some true
 sve : PySem.W.mroIn K C (.type "ValueError") = some true
 sob : PySem.W.mroIn K C (.type "object") = some true
 sta : PySem.W.findIn K (.ref C) "__setattr__" = some (some (.builtin "object.__setattr__"))
 nat : PySem.W.findIn K (.ref C) "at" = some none
section
variable {prog : Program} {w : World} {A : Around} {h : Heap} {g : Array GenState} {d : Drawn} {t : Nat} {os : OsState} {R : Result → Shared → Prop} {K : PySem.W.Frag} {C fI e t0 : Addr} {num : Value} {mg : Str → Option Value} {base : Heap}
theorem eval_super {env : Env} {q0 q1 q2 q3 q4 : Pos} {x : Str} {n : Nat} (hp : (q2.endLine == q4.line) = true) : eval (.Call (.Attribute (.Call (.Name "super" q0) [] [] q1) "__init__" q2) [.Constant (.str x) n q3] [] q4) env = (do
   let ov ← attributeBase (.Call (.Name "super" q0) [] [] q1) "__init__" env (eval (.Call (.Name "super" q0) [] [] q1) env)
   standAt q2.atName
   let (f, first) ← holding [ov] (getMethod ov "__init__" (do let b ← importBound (.Call (.Name "super" q0) [] [] q1) env; pure (b.getD true)))
   callWith q4 f first (backTo q4 (starEach [.Constant (.str x) n q3] env)) []) := by
 show (do
   let ov ← attributeBase (.Call (.Name "super" q0) [] [] q1) "__init__" env (eval (.Call (.Name "super" q0) [] [] q1) env)
   standAt q2.atName
   methodCall (.Call (.Name "super" q0) [] [] q1) "__init__" q2 q4 env ov 1 (backTo q4 (starEach [.Constant (.str x) n q3] env)) []) = _
 have hq : methodCallPos true (.Call (.Name "super" q0) [] [] q1) env q2 q4 = pure q4 := by
  unfold methodCallPos
  rw [hp]
  rfl
 have hf : methodCallForm 1 (backTo q4 (starEach [.Constant (.str x) n q3] env)) [] = true := rfl
 unfold methodCall
 rw [hf, hq]
 rfl
variable {nm qn : Str} {N D : Addr} {bs : List Value} {sn : List Str} {sub : List Value} {ab : Bool} {col : Option Bool} {dd : Option Addr} {k0 k1 k2 k3 k5 : Option Value}
theorem s1 {env : Env} {e cc cda : Addr} {E : Value → Shared → Prop} {q0 q1 q2 q3 q4 q5 : Pos} {x : Str} {n : Nat} {body : List Stmt} {Q : Flow → Shared → Prop} {fd : FuncData} {of oc : Obj} {ar : Arg} {vs : Array Value} {file : Str} {tf : Tok}
  {m : Str → Option Value} {t0 : Addr}
  (ksup : env.kindOf "super" = some .globalImplicit) (kcl : env.kindOf "__class__" = some .free) (kfn : env.scope.kind = .function) (kse : env.kindOf "self" = some .local) (hfn : env.func = some fI) (hf : h.get? fI = some of) (hfd : of.data = .func fd) (har : (fd.params.posonlyargs ++ fd.params.args).head? = some ar) (hself : ar.arg = "self")
  (hcode : env.code = .ref cda) (hcda : h.get? cda = some oc) (hoc : oc.data = .fields vs) (hfile : vs[2]? = some (.str file tf)) (hmain : (prog.main.file == file) = true) (hsn : (prog.main.scope.names.lookup ("super" : Str)).isSome = false)
  (hL : h.Ns env.locals m) (hm : m "self" = some (.ref e)) (hcc : env.cells.lookup ("__class__" : Str) = some cc) (hcell : h.IsCell cc (some (.ref C))) (M : Mod K mg h) (hg : env.globals = mainGlobals) (hb : env.builtins = builtinsNs) (hsup : mg "super" = none)
  (X : K.In h) (hC : h.get? C = some (excClassObj nm qn C N bs (.ref D :: veB) true sn sub ab col dd k0 k1 k2 k3 k5 "ValueError.__new__")) (hoe : h.get? e = some { cls := .ref C, data := .fields #[.ref t0, .none, .none, .none, .bool false, .none] })
  (T : ExcN prog K C fI) (hal : PySem.W.alongIn K "__init__" (.ref D :: veB) = some (some veInit)) (hne : e ≠ C)
  (hp : (q2.endLine == q4.line) = true) (hi : interactive env = false) (hsw : swapsWith (.Call (.Attribute (.Call (.Name "super" q0) [] [] q1) "__init__" q2) [.Constant (.str x) n q3] [] q4) none q5.line env = pure false)
  (hQ : ∀ (h' : Heap) (t' : Nat) (t2 : Addr), (∀ b o, b ≠ e → h.get? b = some o → h'.get? b = some o) → h'.get? e = some { cls := .ref C, data := .fields #[.ref t2, .none, .none, .none, .bool false, .none] } → Q .next ⟨h', g, d, t', os⟩) :
  PySem.wpAt (model prog w) A (.func body env) (exec (.Expr (.Call (.Attribute (.Call (.Name "super" q0) [] [] q1) "__init__" q2) [.Constant (.str x) n q3] [] q4) q5) env) Q E ⟨h, g, d, t, os⟩ := by
 have X := X
 refine ks_wpAt_Expr_any ?_ hi hsw
 refine ks_wpAt_MethodCall ?_ (eval_super hp)
 refine ks_wpAt_super_base ksup kcl (by decide) hfn hf hfd har hcode hcda hoc hfile hmain hsn ?_
 obtain ⟨mb, hb1, hb2⟩ := M.blt
 refine PySem.W.ks_loadName_global kfn ksup (Calls.loadGlobal_builtin (by rw [hg]; exact M.glob) hsup (by rw [hb]; exact hb1) (by rw [hb2 _ (by decide)]; rfl) ⟨rfl, ?_⟩)
 refine wpAny_loadName_free kfn kcl hcc hcell ?_
 rw [hself]
 refine wpAny_loadName_local kfn kse hL hm ?_
 refine ks_wpAny_isType_cls hC rfl ⟨rfl, ?_⟩
 refine ks_wpAny_call_super hC rfl hoe rfl (fun c z => nomatch z) (PySem.W.looks_mroIn X T.self) fun h' hso kp => ?_
 have X1 : K.In h' := X.keeps kp
 refine super_meth X1 hso (kp _ _ hC) hal (PySem.W.looks_opaque X1 T.opq) (kp _ _ hoe) rfl (PySem.W.looks_mroIn X1 T.sve) hne ?_
 have h2 : (h'.push { cls := .type "method-wrapper", data := .fields #[veInit, .ref e] }).get? h'.objs.size = some { cls := .type "method-wrapper", data := .fields #[veInit, .ref e] } := Heap.get?_push_size _ rfl
 refine cw_const h2 fun tk => ?_
 refine mw_call (Heap.get?_push_of_some _ (kp _ _ hC)) rfl h2 (Heap.get?_push_of_some _ (kp _ _ hoe)) fun h3 k3 he3 sz => ?_
 exact hQ h3 _ _ (fun b o hb q => k3 b o hb (Heap.get?_push_of_some _ (kp _ _ q))) he3
theorem init_run {num : Value} (T : ExcN prog K C fI) (X : K.In h) (M : Mod K mg h) (hdep : A.depth < recursionLimit) (hsup : mg "super" = none) (hKe : ∀ a o, K.lookup a = some o → a ≠ e)
  (he : h.get? e = some { cls := .ref C, data := .fields #[.ref t0, .none, .none, .none, .bool false, .none] })
  (hR : ∀ (h' : Heap) (t' : Nat) (dx t2 : Addr), (∀ b o, b ≠ e → h.get? b = some o → h'.get? b = some o) → h.get? dx = none → h'.get? e = some { cls := .ref C, dict := some dx, data := .fields #[.ref t2, .none, .none, .none, .bool false, .none] } →
   h'.Ns1 dx (fun x => if x = "at" then some num else none) → R (.ok (.ret .none)) ⟨h', g, d, t', os⟩) :
  codeAny (model prog w) A (.call (.ref fI) ⟨[.ref e, num], []⟩) R ⟨h, g, d, t, os⟩ := by
 obtain ⟨nm, q, N, D, bs, sn, sub, ab, col, dd, k0, k1, k2, k3, k5, lC, tl, nok, nin, hal⟩ := T.cls
 obtain ⟨qual, p1, p2, x, n, q0, q1, q2, q3, q4, q5, q6, q7, q8, q9, cc, cda, od, an, osl, ccs, cds, kV, doc, pm, ct, ccl, cdl, ccd, cdd, vs, file, tf, lf, lcd, lcc, lcda, hfile, hmain, hsn, hp⟩ := T.fn
 have hf := X _ _ lf
 have hC := X _ _ lC
 have hne : e ≠ C := fun z => by
  rw [z, hC] at he
  cases he
 refine ks_codeAny_call_defAt (binds := [("self", .ref e), ("at", num)]) hdep hf rfl M.nolimit (PySem.W.codeRec_of X lcd) rfl (.of_eq rfl) ?_ (fun y hy => ?_) (fun h₀ hL kp => ?_)
 ·intro y hy
  simp only [PySem.W.fnX, initScope, List.mem_cons, List.not_mem_nil, or_false] at hy
  rcases hy with rfl | rfl | rfl | rfl <;> (intro z; cases z)
 ·simp only [List.mem_cons, List.not_mem_nil, or_false] at hy
  rcases hy with rfl | rfl <;> rfl
 ·have X0 : K.In h₀ := X.keeps kp
  have M0 : Mod K mg h₀ := ⟨X0, M.glob.keeps kp, by obtain ⟨mb, z1, z2⟩ := M.blt; exact ⟨mb, z1.keeps kp, z2⟩, M.nolimit.keeps kp⟩
  refine ks_wpAt_execs_cons ?_
  refine s1 (A := A.deeper _) (fI := fI) (cda := cda) (cc := cc) (of := _) (oc := _) (fd := _) (ar := _) (vs := vs) (file := file) (tf := tf) (nm := nm) (qn := q) (N := N) (D := D) (by rfl) (by rfl) rfl (by rfl) rfl (kp _ _ hf) rfl rfl rfl rfl (X0 _ _ lcda) rfl hfile hmain hsn hL rfl rfl ⟨_, X0 _ _ lcc, rfl⟩ M0 rfl rfl hsup X0 (kp _ _ hC) (kp _ _ he) T hal hne hp rfl rfl ?_
  intro h1 t1 t2 kp1 he1
  show PySem.wpAt _ _ _ (execs [_] _) _ _ _
  have X1 : K.In h1 := fun a o la => kp1 _ _ (hKe a o la) (X0 _ _ la)
  have neL : h.objs.size ≠ e := Ne.symm (Nat.ne_of_lt (Heap.lt_size he))
  have hL1 : h1.Ns h.objs.size (fun x => List.lookup x [(("self" : Str), Value.ref e), ("at", num)].reverse) := by
   obtain ⟨o, es, ep, ho, r⟩ := hL
   exact ⟨o, es, ep, kp1 _ _ neL ho, r⟩
  refine ks_wpAt_execs_cons (ks_wpAt_Assign_Attr ?_ rfl)
  refine PySem.wpAt_of_wpAny ?_
  refine wpAny_Name (wpAny_loadName_local rfl (by rfl) hL1 rfl ?_) (by decide)
  refine wpAny_Name (wpAny_loadName_local rfl (by rfl) hL1 rfl ?_) (by decide)
  refine exc_setattr X1 (X1 _ _ lC) he1 T.sta T.nat T.sob fun h2 t3 dx k2 hdx he2 hns => ?_
  show PySem.wpAt _ _ _ (execs [] _) _ _ _
  refine PySem.wpAt_of_wpAny (wpAny_pure ?_)
  refine hR h2 t3 dx t2 (fun b o hb q => k2 b o hb (kp1 b o hb (kp b o q))) ?_ he2 hns
  cases hz : h.get? dx with
  | none => rfl
  | some o =>
   by_cases hb : dx = e
   ·rw [hb, he1] at hdx
    cases hdx
   ·rw [kp1 _ _ hb (kp _ _ hz)] at hdx
    cases hdx
end
end L2
set_option Elab.async false
set_option linter.all false
set_option maxRecDepth 100000
namespace L2
open PySem PySem.Spec PyProof.Rows
theorem HOk.none_of {P : Program} {w : World} {H : Hp} {h : Heap} {a : Addr} (ok : HOk P w H h) (e : h.get? a = none) : H a = none := by
 cases q : H a with
 | none => rfl
 | some u =>
  obtain ⟨o, ho⟩ := (ok a u q).there
  rw [e] at ho
  cases ho
theorem Inv.newly {X : Cx} {pins : List (Addr × Obj)} {σ : St} {H : Hp} {s : Shared} {h' : Heap} {t' : Nat} {a : Addr} {o : HO} (I : Inv X pins σ H s) (k : ∀ b u, s.heap.get? b = some u → h'.get? b = some u) (hn : s.heap.get? a = none)
  (new : ObjOk X.prog X.w (upd H a o) h' a o) : Inv X pins σ (upd H a o) { s with heap := h', toks := t' } := by
 have ne : ∀ b u, s.heap.get? b = some u → b ≠ a := fun b u q z => by
  rw [z, hn] at q
  cases q
 refine Inv.track (I.kept (t' := t') k) (I.hok.none_of hn) (fun b u q hx => ?_) ?_ (fun x c q => ?_) (fun p hp => ?_) new
 ·obtain ⟨o1, q1⟩ := I.base.there b u q hx
  exact ne b o1 q1
 ·obtain ⟨m, ⟨oL, es, ep, hoL, _⟩, _⟩ := I.loc
  exact ne _ _ hoL
 ·obtain ⟨v, oc, hoc, _⟩ := I.cell x c q
  exact ne _ _ hoc
 ·obtain ⟨q1, _⟩ := I.pin p hp
  exact ne _ _ q1
theorem raise_inst {M : Model} {A : Around} {E : Value → Shared → Prop} {env : Env} {nm q : Str} {C N : Addr} {bs bm : List Value} {hdct : Bool} {sn : List Str} {sub : List Value} {ab : Bool} {col : Option Bool} {dd : Option Addr} {k0 k1 k2 k3 k5 : Option Value} {newId : String} {s : Shared} {x : Sem Value} {Q : Flow → Shared → Prop}
  (hb : bm.contains (Value.type "BaseException") = true) (hh : A.handled = none)
  (hx : wpAny M A x (fun v s₁ => ∃ e oe vs, v = .ref e ∧ s₁.heap.get? C = some (excClassObj nm q C N bs bm hdct sn sub ab col dd k0 k1 k2 k3 k5 newId) ∧ s₁.heap.get? e = some oe ∧ oe.cls = .ref C ∧ oe.data = .fields vs ∧ vs[1]? = some .none ∧ E (.ref e) s₁) E s) :
  wpAny M A (raiseStmt env (some x) none) Q E s := by
 unfold raiseStmt
 refine wpAny_bind (wpAny_mono hx (fun v s1 h => ?_) fun _ _ z => z)
 obtain ⟨e, oe, vs, rfl, hC, hoe, hce, hde, hv, hE⟩ := h
 obtain ⟨h, g, d, t, os⟩ := s1
 have L0 : PySem.W.Looks M h (typeOf (.ref e)) (.ref C) := hce ▸ (PySem.W.Looks.ld hoe).andThen .now
 have L1 : PySem.W.Looks M h (typeOf (.ref C)) (.type "type") := (PySem.W.Looks.ld hC).andThen .now
 have nc : ∀ c : ClassData, oe.data ≠ .cls c := fun c z => by rw [hde] at z; cases z
 refine wpAny_bind (wpAny_pure ?_)
 refine wpAny_bind (wpAny_holding ?_)
 unfold excFromValue isExcClass
 refine wpAny_bind (wpAny_bind (ks_wpAny_isType_inst hoe nc ?_))
 rw [if_neg Bool.false_ne_true]
 refine wpAny_pure ?_
 rw [if_neg Bool.false_ne_true]
 unfold isInstance
 refine wpAny_bind (wpAny_bind (L0.at (wpAny_isSubtype_exc hC ?_)))
 rw [show (Value.ref C :: bm).contains (Value.type "BaseException") = true by simp only [List.contains_cons, hb, Bool.or_true], if_pos rfl]
 refine wpAny_pure ?_
 dsimp only
 refine wpAny_bind (ks_wpAny_isType_inst hoe nc ?_)
 rw [if_neg Bool.false_ne_true]
 unfold raisedInstance
 refine wpAny_bind (wpAny_bind (L0.at (wpAny_bind (L1.at ?_))))
 rw [if_pos (by rfl)]
 refine wpAny_pure ?_
 unfold setFlight
 refine wpAny_bind (wpAny_bind (wpAny_field hoe hde hv ?_))
 rw [if_neg (by decide)]
 refine wpAny_pure ?_
 unfold raiseNew
 refine wpAny_bind (wpAny_handled ?_)
 rw [hh]
 exact wpAny_throw hE
noncomputable def MadeOkN (X : Cx) (E : XK) : Prop := ∀ (pins : List (Addr × Obj)) (σ : St) (H : Hp) (s : Shared) (h' : Heap) (t' : Nat) (e dx C t2 : Addr) (v : V) (num : Value), Inv X pins σ H s → (∀ b o, s.heap.get? b = some o → h'.get? b = some o) → s.heap.get? e = none → s.heap.get? dx = none →
 h'.get? e = some { cls := .ref C, dict := some dx, data := .fields #[.ref t2, .none, .none, .none, .bool false, .none] } → h'.Ns1 dx (fun x => if x = "at" then some num else none) → RelV v num → E (.ref C) (some dx) (upd H dx (.xd [("at", v)])) → X.xe (.ref e) { s with heap := h', toks := t' }
section
variable {P : Program} {w : World} {K : PySem.W.Frag} {mg : Str → Option Value} {base : Heap} {N : List Str} {qual : Str} {scope : Scope} {f : Addr} {cd : Value} {A : Around} {outer : List Env} {s : Shared} {H : Hp} {E : XK}
theorem xd_ok {P : Program} {w : World} {H : Hp} {h : Heap} {dx : Addr} {v : V} {num : Value} (hn : h.Ns1 dx (fun x => if x = "at" then some num else none)) (r : RelV v num) : ObjOk P w H h dx (.xd [("at", v)]) := by
 refine ⟨_, hn, fun f => ?_⟩
 by_cases hf : f = "at"
 ·subst hf
  exact r
 ·rw [if_neg hf, List.lookup_cons, show (f == ("at" : Str)) = false from beq_eq_false_iff_ne.mpr hf]
  trivial
theorem madeN : MadeOkN (cxOf (CXE P w) P w K mg base N qual scope f cd A outer s H E) E := by
 intro pins σ H1 s1 h' t' e dx C t2 v num I kp hne hnd he hns rv hE
 have J : Inv (cxOf (CXE P w) P w K mg base N qual scope f cd A outer s H E) pins σ (upd H1 dx (.xd [("at", v)])) { s1 with heap := h', toks := t' } := I.newly kp hnd (xd_ok hns rv)
 have neL : ∀ b o, s.heap.get? b = some o → b ≠ s.heap.objs.size := fun b o q => Nat.ne_of_lt (Heap.lt_size q)
 have old : ∀ b o, s1.heap.get? b = some o → b ≠ e := fun b o q z => by
  rw [z, hne] at q
  cases q
 have hB : ∀ b o, h'.get? b = some o → b ∉ e :: frs (cxOf (CXE P w) P w K mg base N qual scope f cd A outer s H E).stack → (PySem.W.hideAll h' (e :: frs (cxOf (CXE P w) P w K mg base N qual scope f cd A outer s H E).stack)).get? b = some o := fun b o q hb => PySem.W.hideAll_get _ q hb
 have bs : (PySem.W.hideAll h' (e :: frs (cxOf (CXE P w) P w K mg base N qual scope f cd A outer s H E).stack)).StaysIn h' := fun b o q => PySem.W.of_hideAll _ q
 have hBe : (PySem.W.hideAll h' (e :: frs (cxOf (CXE P w) P w K mg base N qual scope f cd A outer s H E).stack)).get? e = none := PySem.W.hideAll_none _ List.mem_cons_self
 have W := kd_leaving.any (wpAny_leaving_firstW (M := model P w) (E := fun _ _ => False) (s := { s1 with heap := h', toks := t' }) (base := PySem.W.hideAll h' (e :: frs (cxOf (CXE P w) P w K mg base N qual scope f cd A outer s H E).stack))
  (Q := fun _ s2 => ∃ h2, s2 = { s1 with heap := h2, toks := t' } ∧ Heap.LeftW (PySem.W.hideAll h' (e :: frs (cxOf (CXE P w) P w K mg base N qual scope f cd A outer s H E).stack)) (cxOf (CXE P w) P w K mg base N qual scope f cd A outer s H E).stack e (.ref C) (.ref t2) h' h2)
  I.ok.frames (PySem.W.funFrames_hide J.stack fun env he' a ha => List.mem_cons_of_mem _ (List.mem_filterMap.mpr ⟨env, he', ha⟩)) rfl he bs hBe rfl rfl rfl fun h2 z => ⟨h2, rfl, z⟩)
 refine wpAny_mono W (fun _ s2 hq => ?_) fun _ _ z => z.1.elim
 obtain ⟨⟨h2, rfl, l1, l2, l3, l4⟩, dk⟩ := hq
 have c1 : ∀ b u, upd H1 dx (.xd [("at", v)]) b = some u → ∃ o, (PySem.W.hideAll h' (e :: frs (cxOf (CXE P w) P w K mg base N qual scope f cd A outer s H E).stack)).get? b = some o := fun b u q => by
  obtain ⟨o, ho⟩ := (J.hok b u q).there
  refine ⟨o, hB b o ho fun z => ?_⟩
  rcases List.mem_cons.mp z with z | z
  ·have q2 := q
   rw [z] at q2
   unfold upd at q2
   split at q2
   ·rename_i hz
    obtain ⟨oD, es, ep, hoD, hdD, _⟩ := hns
    rw [← hz, he] at hoD
    cases hoD
    cases hdD
   ·rw [I.hok.none_of hne] at q2
    cases q2
  ·rw [J.stkFree b z] at q
   cases q
 have c2 : ∀ b o, s1.heap.get? b = some o → b ∉ frs (cxOf (CXE P w) P w K mg base N qual scope f cd A outer s H E).stack → ∃ o', (PySem.W.hideAll h' (e :: frs (cxOf (CXE P w) P w K mg base N qual scope f cd A outer s H E).stack)).get? b = some o' := fun b o q hb =>
  ⟨o, hB b o (kp b o q) fun z => (List.mem_cons.mp z).elim (old b o q) hb⟩
 have fl : Heap.FlyingW (PySem.W.hideAll h' (e :: frs (cxOf (CXE P w) P w K mg base N qual scope f cd A outer s H E).stack)) outer e (.ref C) (.ref t2) h2 := ⟨l1, hBe, l2.2.2, l3⟩
 have c2' : ∀ b o, h'.get? b = some o → b ∉ e :: frs (cxOf (CXE P w) P w K mg base N qual scope f cd A outer s H E).stack → ∃ o', (PySem.W.hideAll h' (e :: frs (cxOf (CXE P w) P w K mg base N qual scope f cd A outer s H E).stack)).get? b = some o' := fun b o q hb => ⟨o, hB b o q hb⟩
 have un1 : Un (frs (cxOf (CXE P w) P w K mg base N qual scope f cd A outer s H E).stack) [] H1 (upd H1 dx (.xd [("at", v)])) s1.heap h' := ⟨fun b o q _ _ _ => kp b o q, fun b o q _ _ _ => ⟨o.slots, kp b o q⟩, fun b o q n _ => by
   rw [upd_ne fun z => by rw [z, hnd] at q; cases q]
   exact n, fun b o q _ => ⟨o, kp b o q⟩, fun b xs q => by
   rw [upd_ne fun z => by rw [z, I.hok.none_of hnd] at q; cases q]
   exact q, fun b o xs q => by
   rw [upd_ne fun z => by rw [z, I.hok.none_of hnd] at q; cases q]
   exact q, fun b ps q => ⟨#[], by
    rw [upd_ne fun z => by rw [z, I.hok.none_of hnd] at q; cases q]
    simpa using q⟩⟩
 refine ⟨e, C, .ref t2, _, _, some dx, rfl, I.os, I.bare, ?_, fly_hok J.hok bs l1 c1, fl, c1, fun b o q hb => ?_, ?_, hE⟩
 ·exact Un.under (L := s.heap.objs.size) I.base (fly_un un1 bs l1 l4 c2 I.hfs) neL
 ·obtain ⟨o1, q1⟩ := I.base.there b o q (fun z => nomatch z)
  exact c2 b o1 q1 fun z => (List.mem_cons.mp z).elim (neL b o q) hb
 ·obtain ⟨o', h3, h4⟩ := dk e _ he
  exact ⟨o', h3, fun dx' z => by cases z; exact h4⟩
end
theorem find_list {name : Str} : ∀ {l : List DictEntry} {e : DictEntry}, List.find? (fun y => y.key.isStr name) l = some e → findBy (fun n v => v.isStr n) l.toArray name = some e.val := by
 intro l e h
 unfold findBy
 simp only [List.find?_toArray, List.findIdx?_toArray]
 first
  | rw [h]; rfl
  | simp [h]
theorem ns_in {K : PySem.W.Frag} {h : Heap} {N : Addr} {m : Str → Option Value} {x : Str} {v : Value} (X : K.In h) (hN : h.Ns N m) (hx : PySem.W.nsIn K N x = some (some v)) : m x = some v := by
 unfold PySem.W.nsIn at hx
 split at hx
 ·rename_i c d es ep sl ho
  obtain ⟨o, es', ep', ho', hd, hr⟩ := hN
  have e := (X _ _ ho).symm.trans ho'
  cases e
  cases hd
  rw [← hr.2 x]
  unfold nsFind
  cases hf : List.find? (fun y => y.key.isStr x) es.toList with
  | none =>
   rw [hf] at hx
   dsimp only at hx
   split at hx <;> cases hx
  | some e =>
   rw [hf] at hx
   cases hx
   exact find_list hf
 ·cases hx
noncomputable def tRaiseN (C : Addr) (E : XK) (t : TA) : TS := fun _ σ H => t σ H fun vs H1 => ∃ v, vs = [v] ∧ ∀ dx, H1 dx = none → E (.ref C) (some dx) (upd H1 dx (.xd [("at", v)]))
section
variable {X : Cx} {E : XK} {C : Addr} {x : Str} {np cpos pos : Pos} {e : Expr} {es : List Expr} {t : TA} {k : Nat}
theorem ps_raiseN {K : PySem.W.Frag} (hK : X.K = K) (hM : MadeOkN X E) (T : ∃ fI, ExcN X.prog K C fI) (hkp : PySem.W.keepIn K (.ref C) = true) (hg : Gl X x) (hm : X.mg x = some (.ref C)) (hsup : X.mg "super" = none) (hr : Room k X.A) (ha : PA X (e :: es) t) (hc : X.calm = true := by rfl) (hdb : (x == ("__debug__" : Str)) = false := by decide)
  (he : starEach (e :: es) X.env = (false, eval e X.env) :: starEach es X.env := by rfl) (hpl : (backTo cpos (starEach es X.env)).any (·.1) = false := by rfl) :
  PS X (.Raise (some (.Call (.Name x np) (e :: es) [] cpos)) none pos) (tRaiseN C E t) := by
 subst hK
 intro pins s σ H D I h
 obtain ⟨fI, T⟩ := T
 obtain ⟨nm, qn, N, D1, bs, sn, sub, ab, col, dd, k0, k1, k2, k3, k5, lC, tl, nok, nin, hal⟩ := T.cls
 have hfI := T.fn
 obtain ⟨qual, p1, p2, x1, n1, q0, q1, q2, q3, q4, q5, q6, q7, q8, q9, cc, cda, od, an, osl, ccs, cds, kV, doc, pm, ct, ccl, cdl, ccd, cdd, vs0, file, tf, lf, _⟩ := hfI
 show wpAny _ _ (do
  standAt pos
  raiseStmt X.env (some (do
   let v ← eval (.Call (.Name x np) (e :: es) [] cpos) X.env
   standAt pos
   pure v)) none) _ _ _
 refine wpAny_bind (wpAny_standAt (raise_inst (C := C) (bm := .ref D1 :: veB) (nm := nm) (q := qn) (N := N) (bs := bs) (hdct := true) (sn := sn) (sub := sub) (ab := ab) (col := col) (dd := dd) (k0 := k0) (k1 := k1) (k2 := k2) (k3 := k3) (k5 := k5) (newId := "ValueError.__new__") (by simp only [List.contains_cons]; rfl) (I.ok.hd hc) ?_))
 refine wpAny_bind (wpAny_Call_Name_kw (ld_glob I hg hm ?_ hdb))
 refine PySem.W.callWith_K (h₀ := X.base) I.ok.mod.kin hkp (thn (ha cpos pins s σ H _ I h) fun us s1 ⟨vs, H1, I1, r, v, ev, q⟩ => ⟨I1.kIn, ?_⟩) he hpl
 subst ev
 obtain ⟨num, rfl, rv⟩ := r.one
 obtain ⟨h1, g, d, t0, os⟩ := s1
 have M1 : Mod X.K X.mg h1 := ⟨I1.kIn, I1.mod.glob.keeps I1.bk, by obtain ⟨mb, z1, z2⟩ := I1.mod.blt; exact ⟨mb, z1.keeps I1.bk, z2⟩, I1.mod.nolimit.keeps I1.bk⟩
 have OT : OwnTail h1 veB (.ref D1 :: veB) := PySem.W.tail_of_in I1.kIn tl
 have hN : h1.Ns N _ := .of_isNs (PySem.W.isNs_of_in I1.kIn nok)
 refine call_init (fI := fI) OT (I1.kIn _ _ lC) hN (ns_in I1.kIn hN nin) (I1.kIn _ _ lf) rfl (fun h' e' M => ?_) (by show 1 ≤ sizeLine; decide)
 refine wpAny_call ?_
 obtain ⟨t1, he', _⟩ := M.there
 have X2 : X.K.In h' := I1.kIn.keeps M.keeps
 have M2 : Mod X.K X.mg h' := ⟨X2, M1.glob.keeps M.keeps, by obtain ⟨mb, z1, z2⟩ := M1.blt; exact ⟨mb, z1.keeps M.keeps, z2⟩, M1.nolimit.keeps M.keeps⟩
 refine init_run (num := num) T X2 M2 (by rw [make_depth]; have := hr.dp; omega) hsup (fun a o la z => ?_) he' fun h2 t2 dx ta kp hdx he2 hns => ?_
 ·have := I1.kIn _ _ la
  rw [z, M.new] at this
  cases this
 refine ⟨rfl, ?_⟩
 refine wpAny_bind (wpAny_standAt (wpAny_pure ⟨e', _, _, rfl, ?_, he2, rfl, rfl, rfl, ?_⟩))
 ·refine kp _ _ (fun z => ?_) (X2 _ _ lC)
  have := I1.kIn _ _ lC
  rw [z, M.new] at this
  cases this
 ·have nd : h1.get? dx = none := by
   cases hz : h1.get? dx with
   | none => rfl
   | some o =>
    rw [M.keeps _ _ hz] at hdx
    cases hdx
  exact hM pins σ H1 ⟨h1, g, d, t0, os⟩ h2 t2 e' dx C ta v num I1 (fun b o q => kp b o (fun z => by rw [z, M.new] at q; cases q) (M.keeps _ _ q)) M.new nd he2 hns rv (q dx (I1.hok.none_of nd))
end
end L2
namespace L2
open PySem PySem.Spec PyProof.Rows
open PySem.W PySem.Builtin PySem.Builtin.ObjectAttr
theorem handed_rel {M : Model} {A : Around} {E : Value → Shared → Prop} {v : V} {u : Value} {Q : Value → Shared → Prop} {s : Shared} (r : RelV v u) (q : Q u s) : wpAny M A (handedOut u) Q E s := by
 cases v <;> first | (obtain ⟨t, rfl⟩ := r; exact wpAny_pure q) | (cases r; exact wpAny_pure q)
section
variable {prog : Program} {w : World} {A : Around} {E : Value → Shared → Prop} {h : Heap} {g : Array GenState} {d : Drawn} {t : Nat} {os : OsState} {a dx : Addr} {o : Obj} {vs : Array Value} {C : Addr} {K : PySem.W.Frag} {m : Str → Option Value} {u : Value} {v : V}
theorem at_entry {tk : Tok} {Q : PySem.Fin → Shared → Prop} (X : K.In h) (T : ExcB K C) (hat : findIn K (.ref C) "at" = some none) (hhd : hasDictIn K C = true) (I : IsExcD a C (some dx) h) (hn : h.Ns dx m) (hm : m "at" = some u) (hq : Q (.done (.ret u)) ⟨h, g, d, t, os⟩) :
  wpAny (model prog w) A (Builtin.«object.__getattribute__» ⟨[.ref a, .str "at" tk], []⟩) Q E ⟨h, g, d, t, os⟩ := by
 have L0 := IsExc.type (M := model prog w) I.e
 have L1 := looks_findIn (M := model prog w) X hat
 obtain ⟨o, vs, ho, hc, hv, hd⟩ := I
 unfold Builtin.«object.__getattribute__»
 refine wpAny_bind (wpAny_pure ?_)
 dsimp only
 refine wpAny_bind (wpAny_pure ?_)
 refine wpAny_bind (L0.at ?_)
 unfold find
 refine wpAny_bind (wpAny_bind (L1.at ?_))
 refine wpAny_bind (wpAny_pure ?_)
 refine wpAny_bind (wpAny_pure ?_)
 dsimp only
 unfold ownThenClass inOwnDict
 obtain ⟨cdD, hcD⟩ : ∃ cd, clsIn K C = some cd ∧ cd.hasDict = true := by
  unfold hasDictIn at hhd
  cases hz : clsIn K C with
  | none => rw [hz] at hhd; cases hhd
  | some cd => rw [hz] at hhd; exact ⟨cd, rfl, hhd⟩
 have L2 := looks_clsIn (M := model prog w) X hcD.1
 dsimp only
 refine wpAny_bind (wpAny_bind (wpAny_bind ?_))
 unfold loadHead
 refine wpAny_loadPart ho ?_
 rw [hv]
 show wpAny _ _ (instanceDict a false) _ _ _
 unfold instanceDict
 refine wpAny_bind (wpAny_loadPart ho ?_)
 rw [hc, hd dx rfl]
 dsimp only
 refine wpAny_bind (L2.at ?_)
 rw [hcD.2, if_neg (by decide)]
 refine wpAny_pure ?_
 show wpAny _ _ (nsGet dx "at") _ _ _
 refine wpAny_nsGet hn ?_
 rw [hm]
 dsimp only
 refine wpAny_bind (wpAny_rule (wpAny_pure ?_))
 dsimp only
 exact wpAny_pure hq
theorem exc_getat {b : Bool} {Q : Value → Shared → Prop} (X : K.In h) (T : ExcB K C) (hat : findIn K (.ref C) "at" = some none) (hhd : hasDictIn K C = true) (I : IsExcD a C (some dx) h) (hn : h.Ns dx m) (hm : m "at" = some u) (r : RelV v u) (hq : ∀ t', Q u ⟨h, g, d, t', os⟩) :
  wpAny (model prog w) A (getAttr (.ref a) "at" b) Q E ⟨h, g, d, t, os⟩ := by
 have L0 := IsExc.type (M := model prog w) I.e
 have L1 := PySem.W.looks_findIn (M := model prog w) X T.1
 have L2 := PySem.W.looks_findIn (M := model prog w) X T.2.1
 have hx2 : (Value.builtin "BaseException.__getattribute__" == Value.builtin "object.__getattribute__") = false := by decide +kernel
 unfold getAttr
 refine wpAny_bind (wpAny_mkText ?_)
 unfold getAttrBy
 refine wpAny_holding (wpAny_bind (L0.at (wpAny_bind (L1.at ?_))))
 dsimp only
 rw [hx2, Bool.and_false, if_neg Bool.false_ne_true]
 unfold getAttrByItsOwn hookBefore
 rw [show onTheHeap (Value.ref C) = true from rfl, if_pos rfl]
 refine wpAny_bind (L2.at (wpAny_bind (wpAny_attempt (wpAny_holding ?_))))
 unfold callGetattribute
 rw [show onTheHeap (Value.builtin "BaseException.__getattribute__") = false from rfl, Bool.and_false, if_neg Bool.false_ne_true]
 have f3 := F.excAttr_ValueError.ga.bind (.ref a)
 unfold boundAndCalled
 rw [f3]
 refine wpAny_bind (wpAny_pure ?_)
 dsimp only
 refine wpAny_call (codeAny_call_builtin F.excAttr_ValueError.ga.plain F.entry_bexc_ga (check_ga_exc X T I.e (at_entry X T hat hhd I hn hm ?_)))
 exact handed_rel r (hq _)
end
noncomputable def tAt (K : PySem.W.Frag) (ta : TE) : TE := fun σ H Q => ta σ H fun x H1 => ∃ a C dx fs v, x = .ref a ∧ H1 a = some (excD a C (some dx)) ∧ ExcB K C ∧ findIn K (.ref C) "at" = some none ∧ hasDictIn K C = true ∧ H1 dx = some (.xd fs) ∧ fs.lookup ("at" : Str) = some v ∧ Q v H1
section
variable {X : Cx} {e : Expr} {pos : Pos} {ta : TE}
theorem pe_at {K : PySem.W.Frag} (hK : X.K = K) (he : PE X e ta) (hb : attributeBase e "at" X.env (eval e X.env) = eval e X.env) : PE X (.Attribute e "at" pos) (tAt K ta) := by
 subst hK
 intro pins s σ H Q I h
 refine attr_of hb (thn (he pins s σ H _ I h) fun u s1 ⟨x, H1, I1, rx, a, C, dx, fs, v, ex, ea, T, hat, hhd, ed, l, q⟩ => ?_)
 subst ex
 obtain rfl : u = Value.ref a := rx
 obtain ⟨hx, _, _⟩ := I1.hok a _ ea
 obtain ⟨mA, hn, hf⟩ := I1.hok dx _ ed
 have hr := hf "at"
 rw [l] at hr
 obtain ⟨h1, g, d, t, os⟩ := s1
 cases hm : mA "at" with
 | none =>
  rw [hm] at hr
  exact hr.elim
 | some u =>
  rw [hm] at hr
  exact exc_getat I1.kIn T hat hhd hx hn.ns hm hr fun t' => ⟨v, H1, I1.tok t', hr, q⟩
end
end L2
namespace L2
open PySem PySem.Spec PyProof.Rows
noncomputable def HMatch (K : PySem.W.Frag) (C : Addr) : List (Addr × Nat × TS) → (Nat → TS → Prop) → Prop
 | [], _ => False
 | (cD, i, th) :: r, F => (PySem.W.exmOne K (.ref C) (.ref cD) = some true ∧ F i th) ∨ (PySem.W.exmOne K (.ref C) (.ref cD) = some false ∧ HMatch K C r F)
noncomputable def tryEN (K : PySem.W.Frag) (ths : List (Addr × Nat × TS)) (D : Ends) (σ : St) : XK := fun cls od H' => ∃ C, cls = .ref C ∧ ExcB K C ∧ HMatch K C ths fun i th => ∀ e, H' e = none → th (goneEnds D i) (σ.set i (some (.ref e))) (upd H' e (excD e C od))
noncomputable def tTryN (K : PySem.W.Frag) (ths : List (Addr × Nat × TS)) (tb : XK → St → TS) : TS := fun D σ H => tb (tryEN K ths D σ) σ D σ H
end L2
set_option Elab.async false
set_option linter.all false
set_option maxRecDepth 100000
namespace L2
open PySem PySem.Spec PyProof.Rows
section
variable {X : Cx} {pos : Pos}
noncomputable def tPar3 (i j k : Nat) (ta : TA) : TS := fun D σ H => ta σ H fun vs H1 => ∃ v w u, vs = [v, w, u] ∧ D.nx (((σ.set i (some v)).set j (some w)).set k (some u)) H1
end
end L2
set_option Elab.async false
set_option linter.all false
set_option maxRecDepth 100000
namespace L2
open PySem PySem.Spec PyProof.Rows
noncomputable def dkOf (o : Option HO) : Option (List (Key × V)) := match o with
 | some (.dK kvs) => some kvs
 | _ => none
theorem dkOf_k (kvs : List (Key × V)) : dkOf (some (.dK kvs)) = some kvs := rfl
noncomputable def tDg (k : Str) (td : TE) : TE := fun σ H Q => td σ H fun x H1 => match x with
 | .ref a => optK (dkOf (H1 a)) fun kvs => optK (valV kvs (Sum.inr k)) fun v => Q v H1
 | _ => False
noncomputable def tDp (k : Str) (td tv : TE) : TS := fun D σ H => tv σ H fun v H1 => td σ H1 fun x H2 => match x with
 | .ref a => optK (dkOf (H2 a)) fun kvs => kvs.length < 1000000 ∧ D.nx σ (upd H2 a (.dK (putK kvs (Sum.inr k) v)))
 | _ => False
end L2
set_option Elab.async false
set_option linter.all false
set_option maxRecDepth 100000
namespace L2
open PySem PySem.Spec PyProof.Rows
section
variable {X : Cx} {pos pos' : Pos}
noncomputable def keyF : List V → Option (List Key)
 | [] => some []
 | .int i :: r => (keyF r).map (Sum.inl i :: ·)
 | _ => none
noncomputable def tDpT (td ty tv : TE) : TS := fun D σ H => tv σ H fun v H1 => td σ H1 fun x H2 => ty σ H2 fun y H3 => ∃ a b kvs xs k, x = .ref a ∧ y = .ref b ∧ H3 a = some (.dT kvs) ∧ H3 b = some (.tup xs) ∧ keyF xs = some k ∧ kvs.length < 1000000 ∧ D.nx σ (upd H3 a (.dT (putK kvs k v)))
end
end L2
set_option Elab.async false
set_option linter.all false
set_option maxRecDepth 100000
set_option Elab.async false
set_option linter.all false
set_option maxRecDepth 100000
set_option Elab.async false
set_option linter.all false
set_option maxRecDepth 100000
set_option Elab.async false
set_option linter.all false
set_option maxRecDepth 100000
namespace L2
open PySem PySem.Spec PyProof.Rows
section
variable {X : Cx}
noncomputable def clrR : V → List V → Hp → VK → Prop := fun x vs H Q => match x, vs with
 | .ref l, [] => optK (lstOf (H l)) fun _ => Q .non (upd H l (.lst []))
 | _, _ => False
variable {o : Expr} {to : TE} {apos cpos : Pos}
end
end L2
set_option Elab.async false
set_option linter.all false
set_option maxRecDepth 100000
namespace L2
open PySem
mutual
noncomputable def plainD : PyData → Bool
 | .int _ => true
 | .none => true
 | .list xs => plainDs xs
 | .tuple xs => plainDs xs
 | _ => false
noncomputable def plainDs : List PyData → Bool
 | [] => true
 | x :: xs => plainD x && plainDs xs
end
mutual
theorem eqv_iff : ∀ (d e : PyData), plainD d = true → plainD e = true → (PyData.eqv d e = true ↔ d = e)
 | .int a, e, _, he => by
  cases e <;> simp [PyData.eqv, plainD] at he ⊢
 | .none, e, _, he => by
  cases e <;> simp [PyData.eqv, plainD] at he ⊢
 | .list xs, e, hd, he => by
  cases e with
  | list ys =>
   simp only [plainD] at hd he
   simp only [PyData.eqv, PyData.list.injEq]
   exact eqvAll_iff xs ys hd he
  | _ => simp [PyData.eqv, plainD] at he ⊢
 | .tuple xs, e, hd, he => by
  cases e with
  | tuple ys =>
   simp only [plainD] at hd he
   simp only [PyData.eqv, PyData.tuple.injEq]
   exact eqvAll_iff xs ys hd he
  | _ => simp [PyData.eqv, plainD] at he ⊢
 | .bool _, e, hd, _ => by simp [plainD] at hd
 | .str _, e, hd, _ => by simp [plainD] at hd
 | .dict _, e, hd, _ => by simp [plainD] at hd
theorem eqvAll_iff : ∀ (xs ys : List PyData), plainDs xs = true → plainDs ys = true → (PyData.eqvAll xs ys = true ↔ xs = ys)
 | [], [], _, _ => by simp [PyData.eqvAll]
 | [], y :: ys, _, _ => by simp [PyData.eqvAll]
 | x :: xs, [], _, _ => by simp [PyData.eqvAll]
 | x :: xs, y :: ys, hx, hy => by
  simp only [plainDs, Bool.and_eq_true] at hx hy
  simp only [PyData.eqvAll, Bool.and_eq_true, List.cons.injEq]
  rw [eqv_iff x y hx.1 hy.1, eqvAll_iff xs ys hx.2 hy.2]
end
end L2
set_option Elab.async false
set_option linter.all false
set_option maxRecDepth 100000
namespace L2
open PySem PySem.Spec PyProof.Rows
noncomputable def tDgI (td ti : TE) : TE := fun σ H Q => td σ H fun x H1 => ti σ H1 fun y H2 => match x, y with
 | .ref a, .int i => optK (dkOf (H2 a)) fun kvs => optK (valV kvs (Sum.inl i)) fun v => Q v H2
 | _, _ => False
noncomputable def tDpI (td ti tv : TE) : TS := fun D σ H => tv σ H fun v H1 => td σ H1 fun x H2 => ti σ H2 fun y H3 => match x, y with
 | .ref a, .int i => optK (dkOf (H3 a)) fun kvs => kvs.length < 1000000 ∧ D.nx σ (upd H3 a (.dK (putK kvs (Sum.inl i) v)))
 | _, _ => False
noncomputable def tDgetI (td ti tx : TE) : TE := fun σ H Q => td σ H fun x H1 => match x with
 | .ref a => (dkOf (H1 a)).isSome = true ∧ ti σ H1 fun y H2 => tx σ H2 fun z H3 => match y with
  | .int i => optK (dkOf (H3 a)) fun kvs => Q ((valV kvs (Sum.inl i)).getD z) H3
  | _ => False
 | _ => False
noncomputable def popAtR : V → List V → Hp → VK → Prop := fun x vs H Q => match x, vs with
 | .ref l, [.int i] => optK (lstOf (H l)) fun xs => xs.length < 1000000 ∧ optK (ixN xs.length i) fun k => optK (xs[k]?) fun y => Q y (upd H l (.lst (xs.eraseIdx k)))
 | _, _ => False
noncomputable def revR : V → List V → Hp → VK → Prop := fun x vs H Q => match x, vs with
 | .ref l, [] => optK (lstOf (H l)) fun xs => Q .non (upd H l (.lst xs.reverse))
 | _, _ => False
noncomputable def insAt (n : Nat) (i : Int) : Nat := if i < 0 then (i + (n : Int)).toNat else min i.toNat n
noncomputable def insR : V → List V → Hp → VK → Prop := fun x vs H Q => match x, vs with
 | .ref l, [.int i, y] => optK (lstOf (H l)) fun xs => xs.length < 1000000 ∧ (-(2 ^ 63) ≤ i ∧ i < 2 ^ 63) ∧ Q .non (upd H l (.lst (xs.take (insAt xs.length i) ++ [y] ++ xs.drop (insAt xs.length i))))
 | _, _ => False
end L2
set_option Elab.async false
set_option linter.all false
set_option maxRecDepth 100000
namespace L2
open PySem PySem.Spec PyProof.Rows
noncomputable def countB : V → List V → Hp → VK → Prop := fun x vs H Q => match x, vs with
 | .ref l, [.bl k] => ∃ bs : List Bool, H l = some (.lst (bs.map V.bl)) ∧ Q (.int (bs.count k : Int)) H
 | _, _ => False
noncomputable def indexB : V → List V → Hp → VK → Prop := fun x vs H Q => match x, vs with
 | .ref l, [.bl k] => ∃ bs : List Bool, H l = some (.lst (bs.map V.bl)) ∧ k ∈ bs ∧ Q (.int (bs.idxOf k : Int)) H
 | _, _ => False
noncomputable def isB (k : Bool) : Value → Bool
 | .bool b => b == k
 | _ => false
theorem eqAt_bool {A : Around} {s : Shared} (b k : Bool) : SeqAt.EqAt A s (.bool b) (.bool k) (isB k (.bool b)) := by
 have h := eqAt_V (A := A) (s := s) (y := .bl b) (x := .bl k) rfl rfl rfl rfl
 have e : eqV (.bl b) (.bl k) = isB k (.bool b) := by cases b <;> cases k <;> rfl
 rw [← e]
 exact h
theorem countP_bool (k : Bool) : ∀ bs : List Bool, List.countP (isB k) (bs.map Value.bool) = bs.count k
 | [] => rfl
 | b :: r => by
  rw [List.map_cons, List.countP_cons, List.count_cons, countP_bool k r]
  rfl
section
variable {X : Cx}
theorem mt_countB : MtM X "list.count" countB := by
 intro pins s σ H x vs v us Q I rx rv h
 unfold countB at h
 split at h
 ·rename_i l k
  obtain ⟨bs, hH, q⟩ := h
  cases rx
  obtain ⟨u, rfl, ru⟩ := rv.one
  obtain rfl : u = Value.bool k := ru
  obtain ⟨z, its, n, r, hl, e⟩ := I.lstM hH
  have ei := vals_bl r
  refine call_meets F.slot_list_count ⟨_, e, rfl⟩ F.entry_list_count (F.args_list_count_2 _ _) (SeqAt.list_countAt l its.toArray n _ _ _ (isB k)) ⟨e, fun y hy => ?_, ?_⟩
  ·rw [ei] at hy
   obtain ⟨b, _, rfl⟩ := List.mem_map.mp (List.mem_toArray.mp hy)
   exact eqAt_bool b k
  ·refine ⟨.int _, H, I.tok _, ⟨_, rfl⟩, ?_⟩
   rw [show its.toArray.toList = its from rfl, ei, countP_bool]
   exact q
 ·exact h.elim
theorem mt_indexB : MtM X "list.index" indexB := by
 intro pins s σ H x vs v us Q I rx rv h
 unfold indexB at h
 split at h
 ·rename_i l k
  obtain ⟨bs, hH, hk, q⟩ := h
  cases rx
  obtain ⟨u, rfl, ru⟩ := rv.one
  obtain rfl : u = Value.bool k := ru
  obtain ⟨z, its, n, r, hl, e⟩ := I.lstM hH
  have ei := vals_bl r
  subst ei
  have lj := List.idxOf_lt_length_of_mem hk
  have lz : bs.length ≤ sizeLine := by rw [List.length_map] at z; exact z
  refine call_meets F.slot_list_index ⟨_, e, rfl⟩ F.entry_list_index (F.args_list_index_2 _ _) (SeqAt.list_indexAt l _ n _ _ _ (isB k) (bs.idxOf k) (by simpa using lj) ?_ ?_ ?_) ⟨e, fun y hy => ?_, ?_⟩
  ·have : sizeLine < 2 ^ 62 := by decide
   omega
  ·simp [isB]
  ·intro m hm lm
   have lb : m < bs.length := by omega
   have : (bs[m] == k) = false := by
    have := List.not_of_lt_findIdx (p := (· == k)) (xs := bs) (i := m) (by simpa [List.idxOf] using lm)
    simpa using this
   simpa [isB] using this
  ·obtain ⟨b, _, rfl⟩ := List.mem_map.mp (List.mem_toArray.mp hy)
   exact eqAt_bool b k
  ·exact ⟨.int _, H, I.tok _, ⟨_, rfl⟩, q⟩
 ·exact h.elim
end
section
variable {X : Cx} {o e : Expr} {apos cpos : Pos} {to : TE} {t : TA}
theorem pe_cntB (ho : PE X o to) (ha : PA X [e] t)
  (hbase : attributeBase o "count" X.env (eval o X.env) = eval o X.env := by rfl)
  (hfew : ((backTo cpos (starEach [e] X.env)).all (fun x => !x.1) && (backToKw cpos (keywordEach [] X.env)).all (fun x => x.1.isSome)
   && decide ([e].length + ([] : List Keyword).length + (if ([] : List Keyword).isEmpty then 0 else 1) < 30)) = true := by rfl)
  (hline : (apos.endLine == cpos.line) = true := by rfl) (hs : starEach [e] X.env = (false, eval e X.env) :: starEach [] X.env := by rfl) (hplain : (backTo cpos (starEach [] X.env)).any (·.1) = false := by rfl) :
  PE X (.Call (.Attribute o "count" apos) [e] [] cpos) (tML countB to t) := by
 intro pins s σ H Q I h
 refine pe_bm PySem.F.plainAttrs_list PySem.F.slot_list_count PySem.F.type_list_count mt_countB ho.up ha hbase hfew hline hs hplain pins s σ H Q I ⟨_, h, fun x H1 q => ?_⟩
 cases x with
 | ref l =>
  obtain ⟨h1, h2⟩ := q
  obtain ⟨xs, e⟩ := Option.isSome_iff_exists.mp h1
  exact ⟨.inl ⟨rfl, xs, SqL.of (lstOf_eq e)⟩, h2⟩
 | _ => exact q.elim
theorem pe_idxB (ho : PE X o to) (ha : PA X [e] t)
  (hbase : attributeBase o "index" X.env (eval o X.env) = eval o X.env := by rfl)
  (hfew : ((backTo cpos (starEach [e] X.env)).all (fun x => !x.1) && (backToKw cpos (keywordEach [] X.env)).all (fun x => x.1.isSome)
   && decide ([e].length + ([] : List Keyword).length + (if ([] : List Keyword).isEmpty then 0 else 1) < 30)) = true := by rfl)
  (hline : (apos.endLine == cpos.line) = true := by rfl) (hs : starEach [e] X.env = (false, eval e X.env) :: starEach [] X.env := by rfl) (hplain : (backTo cpos (starEach [] X.env)).any (·.1) = false := by rfl) :
  PE X (.Call (.Attribute o "index" apos) [e] [] cpos) (tML indexB to t) := by
 intro pins s σ H Q I h
 refine pe_bm PySem.F.plainAttrs_list PySem.F.slot_list_index PySem.F.type_list_index mt_indexB ho.up ha hbase hfew hline hs hplain pins s σ H Q I ⟨_, h, fun x H1 q => ?_⟩
 cases x with
 | ref l =>
  obtain ⟨h1, h2⟩ := q
  obtain ⟨xs, e⟩ := Option.isSome_iff_exists.mp h1
  exact ⟨.inl ⟨rfl, xs, SqL.of (lstOf_eq e)⟩, h2⟩
 | _ => exact q.elim
end
end L2
namespace MA
noncomputable def ab (i : Int) : Int := if i < 0 then -i else i
end MA
section
open PySem L2 MA PyProof.Rows
local macro_rules | `(tactic| o_head ⟨$a0, $a1, $a2⟩) => `(tactic| simp only [tSeq, List.cons_inj_right, tNext, tIfS, tTest, tOp, tUn, rI, rI0, rU, tVar, tC, tAsg, gName, tRet, tRetN, tDrop, tCall, tCons, tNil, tCB, tTup, tLst, rEq, rNe, ixF, setF, gSub, tPar, tNot, tAnd, tOr, tB, tNotV, tAndV, tOrV, tIf, List.append_nil, List.getElem?_cons_zero, List.getElem?_cons_succ, List.set_cons_zero, List.set_cons_succ, Option.some.injEq, V.int.injEq, V.bl.injEq, V.ref.injEq, exists_eq_left', exists_eq_left, exists_eq_right, exists_and_left, exists_and_right, and_true, true_and, and_assoc, List.cons.injEq, optK_some, seqOf_l, seqOf_t, tYes, tIsN, tNotN, rLenK, tML, tML0, appR, popR, clrR, catF, listF, lenF, slF, tSl, tPart, tNoPart, tyN, isiF, isiT_1, isiT_2, isiT_3, isiT_4, isiT_5, isiT_6, isiT_7, lstOf_l, tup3_some, tup2_some, Option.isSome_some, List.dropLast, List.getLast?, L2.stLC, frV, List.map_cons, List.map_nil, List.replicate_succ, List.replicate_zero, List.cons_append, List.nil_append, List.drop_succ_cons, List.drop_zero, Option.join_some, atI_0, atI_1, atI_2, atI_3, scal, if_true, if_false, Bool.false_eq_true, Bool.true_eq_false, reduceIte, reduceCtorEq, decide_eq_true_eq, Bool.not_eq_true', decide_eq_false_iff_not, eq_self, List.length_cons, List.length_nil, Nat.zero_add, Nat.reduceAdd, Nat.reduceLT, upd_same, Int.cast_ofNat_Int, Int.reduceToNat, Int.reducePow, Int.reduceLE, Int.reduceLT, Int.reduceSub, Int.reduceAdd, Int.reduceMul, Int.reduceNeg, bd10, bd64, bd2, bd3, bd4, ixN_3_0, ixN_3_1, ixN_3_2, ixN_2_0, ixN_2_1, ixN_4_0, ixN_4_1, ixN_4_2, ixN_4_3, ne_eq, Int.reduceEq, not_false_eq_true, not_true_eq_false, false_or, or_false, false_and, and_false, exists_false, exists_const, tCont, tRaise, tRaise0, tTry, tCallS, goneEnds, tPar3, tDg, tDp, dkOf_k, tDisp, tPairs, tDpT, tDNewT, tDgI, tDpI, tDgetI, popAtR, insR, revR, tDNewK, $a0:term, $a1:term, $a2:term])
local macro_rules | `(tactic| o_head ⟨$a0, $a1, $a2, $a3⟩) => `(tactic| simp only [tSeq, List.cons_inj_right, tNext, tIfS, tTest, tOp, tUn, rI, rI0, rU, tVar, tC, tAsg, gName, tRet, tRetN, tDrop, tCall, tCons, tNil, tCB, tTup, tLst, rEq, rNe, ixF, setF, gSub, tPar, tNot, tAnd, tOr, tB, tNotV, tAndV, tOrV, tIf, List.append_nil, List.getElem?_cons_zero, List.getElem?_cons_succ, List.set_cons_zero, List.set_cons_succ, Option.some.injEq, V.int.injEq, V.bl.injEq, V.ref.injEq, exists_eq_left', exists_eq_left, exists_eq_right, exists_and_left, exists_and_right, and_true, true_and, and_assoc, List.cons.injEq, optK_some, seqOf_l, seqOf_t, tYes, tIsN, tNotN, rLenK, tML, tML0, appR, popR, clrR, catF, listF, lenF, slF, tSl, tPart, tNoPart, tyN, isiF, isiT_1, isiT_2, isiT_3, isiT_4, isiT_5, isiT_6, isiT_7, lstOf_l, tup3_some, tup2_some, Option.isSome_some, List.dropLast, List.getLast?, L2.stLC, frV, List.map_cons, List.map_nil, List.replicate_succ, List.replicate_zero, List.cons_append, List.nil_append, List.drop_succ_cons, List.drop_zero, Option.join_some, atI_0, atI_1, atI_2, atI_3, scal, if_true, if_false, Bool.false_eq_true, Bool.true_eq_false, reduceIte, reduceCtorEq, decide_eq_true_eq, Bool.not_eq_true', decide_eq_false_iff_not, eq_self, List.length_cons, List.length_nil, Nat.zero_add, Nat.reduceAdd, Nat.reduceLT, upd_same, Int.cast_ofNat_Int, Int.reduceToNat, Int.reducePow, Int.reduceLE, Int.reduceLT, Int.reduceSub, Int.reduceAdd, Int.reduceMul, Int.reduceNeg, bd10, bd64, bd2, bd3, bd4, ixN_3_0, ixN_3_1, ixN_3_2, ixN_2_0, ixN_2_1, ixN_4_0, ixN_4_1, ixN_4_2, ixN_4_3, ne_eq, Int.reduceEq, not_false_eq_true, not_true_eq_false, false_or, or_false, false_and, and_false, exists_false, exists_const, tCont, tRaise, tRaise0, tTry, tCallS, goneEnds, tPar3, tDg, tDp, dkOf_k, tDisp, tPairs, tDpT, tDNewT, tDgI, tDpI, tDgetI, popAtR, insR, revR, tDNewK, $a0:term, $a1:term, $a2:term, $a3:term])
namespace LW
open PySem L2 MA PyProof.Rows
noncomputable def top (i : Nat) : Stmt := PySem.Challenge.pw_nearlands_k04_classes_of_refusals.main.body.getD i (.Pass ⟨0, 0, 0, 0⟩)
noncomputable abbrev s__law_raised : Stmt := top 17
noncomputable abbrev s__law_truths : Stmt := top 18
noncomputable abbrev s__law_right : Stmt := top 19
noncomputable abbrev s_law : Stmt := top 20
structure Cz where
 LandError : Addr
 NoNumber : Addr
 NoLine : Addr
 NoBox : Addr
 TooMany : Addr
 NoSpot : Addr
 NoName : Addr
 Taken : Addr
 Unknown : Addr
 NoDeed : Addr
 NoLot : Addr
 NoCount : Addr
 NoWeights : Addr
 NoText : Addr
 NoRow : Addr
structure Txt (P : Program) (K : PySem.W.Frag) (mg : Str → Option Value) (C : Cz) : Prop where
 b_ValueError : mg "ValueError" = none
 b_isinstance : mg "isinstance" = none
 b_range : mg "range" = none
 b_super : mg "super" = none
 n_NoSpot : ∃ fI, ExcN P K C.NoSpot fI
 kp_NoSpot : PySem.W.keepIn K (.ref C.NoSpot) = true
 eb_NoSpot : ExcB K C.NoSpot
 at_NoSpot : PySem.W.findIn K (.ref C.NoSpot) "at" = some none
 hd_NoSpot : PySem.W.hasDictIn K C.NoSpot = true
 g_LandError : mg "LandError" = some (.ref C.LandError)
 g_NoNumber : mg "NoNumber" = some (.ref C.NoNumber)
 g_NoLine : mg "NoLine" = some (.ref C.NoLine)
 g_NoBox : mg "NoBox" = some (.ref C.NoBox)
 g_TooMany : mg "TooMany" = some (.ref C.TooMany)
 g_NoSpot : mg "NoSpot" = some (.ref C.NoSpot)
 g_NoName : mg "NoName" = some (.ref C.NoName)
 g_Taken : mg "Taken" = some (.ref C.Taken)
 g_Unknown : mg "Unknown" = some (.ref C.Unknown)
 g_NoDeed : mg "NoDeed" = some (.ref C.NoDeed)
 g_NoLot : mg "NoLot" = some (.ref C.NoLot)
 g_NoCount : mg "NoCount" = some (.ref C.NoCount)
 g_NoWeights : mg "NoWeights" = some (.ref C.NoWeights)
 g_NoText : mg "NoText" = some (.ref C.NoText)
 g_NoRow : mg "NoRow" = some (.ref C.NoRow)
 x_NoNumber : ExcC K C.NoNumber
 x_NoLine : ExcC K C.NoLine
 x_NoBox : ExcC K C.NoBox
 x_TooMany : ExcC K C.TooMany
 x_NoName : ExcC K C.NoName
 x_Taken : ExcC K C.Taken
 x_Unknown : ExcC K C.Unknown
 x_NoDeed : ExcC K C.NoDeed
 x_NoLot : ExcC K C.NoLot
 x_NoCount : ExcC K C.NoCount
 x_NoWeights : ExcC K C.NoWeights
 x_NoText : ExcC K C.NoText
 x_NoRow : ExcC K C.NoRow
 m_NoNumber_LandError : PySem.W.exmOne K (.ref C.NoNumber) (.ref C.LandError) = some true
 m_NoLine_LandError : PySem.W.exmOne K (.ref C.NoLine) (.ref C.LandError) = some true
 m_NoBox_LandError : PySem.W.exmOne K (.ref C.NoBox) (.ref C.LandError) = some true
 m_TooMany_LandError : PySem.W.exmOne K (.ref C.TooMany) (.ref C.LandError) = some true
 m_NoSpot_LandError : PySem.W.exmOne K (.ref C.NoSpot) (.ref C.LandError) = some true
 m_NoName_LandError : PySem.W.exmOne K (.ref C.NoName) (.ref C.LandError) = some true
 m_Taken_LandError : PySem.W.exmOne K (.ref C.Taken) (.ref C.LandError) = some true
 m_Unknown_LandError : PySem.W.exmOne K (.ref C.Unknown) (.ref C.LandError) = some true
 m_NoDeed_LandError : PySem.W.exmOne K (.ref C.NoDeed) (.ref C.LandError) = some true
 m_NoLot_LandError : PySem.W.exmOne K (.ref C.NoLot) (.ref C.LandError) = some true
 m_NoCount_LandError : PySem.W.exmOne K (.ref C.NoCount) (.ref C.LandError) = some true
 m_NoWeights_LandError : PySem.W.exmOne K (.ref C.NoWeights) (.ref C.LandError) = some true
 m_NoText_LandError : PySem.W.exmOne K (.ref C.NoText) (.ref C.LandError) = some true
 m_NoRow_LandError : PySem.W.exmOne K (.ref C.NoRow) (.ref C.LandError) = some true
 i_NoNumber_ValueError : PySem.W.kitOne K (.ref C.NoNumber) (.type "ValueError") = some true
 i_NoLine_ValueError : PySem.W.kitOne K (.ref C.NoLine) (.type "ValueError") = some true
 i_NoBox_ValueError : PySem.W.kitOne K (.ref C.NoBox) (.type "ValueError") = some true
 i_TooMany_ValueError : PySem.W.kitOne K (.ref C.TooMany) (.type "ValueError") = some true
 i_NoSpot_ValueError : PySem.W.kitOne K (.ref C.NoSpot) (.type "ValueError") = some true
 i_NoName_ValueError : PySem.W.kitOne K (.ref C.NoName) (.type "ValueError") = some true
 i_Taken_ValueError : PySem.W.kitOne K (.ref C.Taken) (.type "ValueError") = some true
 i_Unknown_ValueError : PySem.W.kitOne K (.ref C.Unknown) (.type "ValueError") = some true
 i_NoDeed_ValueError : PySem.W.kitOne K (.ref C.NoDeed) (.type "ValueError") = some true
 i_NoLot_ValueError : PySem.W.kitOne K (.ref C.NoLot) (.type "ValueError") = some true
 i_NoCount_ValueError : PySem.W.kitOne K (.ref C.NoCount) (.type "ValueError") = some true
 i_NoWeights_ValueError : PySem.W.kitOne K (.ref C.NoWeights) (.type "ValueError") = some true
 i_NoText_ValueError : PySem.W.kitOne K (.ref C.NoText) (.type "ValueError") = some true
 i_NoRow_ValueError : PySem.W.kitOne K (.ref C.NoRow) (.type "ValueError") = some true
 i_NoNumber_NoNumber : PySem.W.kitOne K (.ref C.NoNumber) (.ref C.NoNumber) = some true
 i_NoNumber_NoLine : PySem.W.kitOne K (.ref C.NoNumber) (.ref C.NoLine) = some false
 i_NoNumber_NoBox : PySem.W.kitOne K (.ref C.NoNumber) (.ref C.NoBox) = some false
 i_NoNumber_TooMany : PySem.W.kitOne K (.ref C.NoNumber) (.ref C.TooMany) = some false
 i_NoNumber_NoSpot : PySem.W.kitOne K (.ref C.NoNumber) (.ref C.NoSpot) = some false
 i_NoNumber_NoName : PySem.W.kitOne K (.ref C.NoNumber) (.ref C.NoName) = some false
 i_NoNumber_Taken : PySem.W.kitOne K (.ref C.NoNumber) (.ref C.Taken) = some false
 i_NoNumber_Unknown : PySem.W.kitOne K (.ref C.NoNumber) (.ref C.Unknown) = some false
 i_NoNumber_NoDeed : PySem.W.kitOne K (.ref C.NoNumber) (.ref C.NoDeed) = some false
 i_NoNumber_NoLot : PySem.W.kitOne K (.ref C.NoNumber) (.ref C.NoLot) = some false
 i_NoNumber_NoCount : PySem.W.kitOne K (.ref C.NoNumber) (.ref C.NoCount) = some false
 i_NoNumber_NoWeights : PySem.W.kitOne K (.ref C.NoNumber) (.ref C.NoWeights) = some false
 i_NoNumber_NoText : PySem.W.kitOne K (.ref C.NoNumber) (.ref C.NoText) = some false
 i_NoNumber_NoRow : PySem.W.kitOne K (.ref C.NoNumber) (.ref C.NoRow) = some false
 i_NoLine_NoNumber : PySem.W.kitOne K (.ref C.NoLine) (.ref C.NoNumber) = some false
 i_NoLine_NoLine : PySem.W.kitOne K (.ref C.NoLine) (.ref C.NoLine) = some true
 i_NoLine_NoBox : PySem.W.kitOne K (.ref C.NoLine) (.ref C.NoBox) = some false
 i_NoLine_TooMany : PySem.W.kitOne K (.ref C.NoLine) (.ref C.TooMany) = some false
 i_NoLine_NoSpot : PySem.W.kitOne K (.ref C.NoLine) (.ref C.NoSpot) = some false
 i_NoLine_NoName : PySem.W.kitOne K (.ref C.NoLine) (.ref C.NoName) = some false
 i_NoLine_Taken : PySem.W.kitOne K (.ref C.NoLine) (.ref C.Taken) = some false
 i_NoLine_Unknown : PySem.W.kitOne K (.ref C.NoLine) (.ref C.Unknown) = some false
 i_NoLine_NoDeed : PySem.W.kitOne K (.ref C.NoLine) (.ref C.NoDeed) = some false
 i_NoLine_NoLot : PySem.W.kitOne K (.ref C.NoLine) (.ref C.NoLot) = some false
 i_NoLine_NoCount : PySem.W.kitOne K (.ref C.NoLine) (.ref C.NoCount) = some false
 i_NoLine_NoWeights : PySem.W.kitOne K (.ref C.NoLine) (.ref C.NoWeights) = some false
 i_NoLine_NoText : PySem.W.kitOne K (.ref C.NoLine) (.ref C.NoText) = some false
 i_NoLine_NoRow : PySem.W.kitOne K (.ref C.NoLine) (.ref C.NoRow) = some false
 i_NoBox_NoNumber : PySem.W.kitOne K (.ref C.NoBox) (.ref C.NoNumber) = some false
 i_NoBox_NoLine : PySem.W.kitOne K (.ref C.NoBox) (.ref C.NoLine) = some false
 i_NoBox_NoBox : PySem.W.kitOne K (.ref C.NoBox) (.ref C.NoBox) = some true
 i_NoBox_TooMany : PySem.W.kitOne K (.ref C.NoBox) (.ref C.TooMany) = some false
 i_NoBox_NoSpot : PySem.W.kitOne K (.ref C.NoBox) (.ref C.NoSpot) = some false
 i_NoBox_NoName : PySem.W.kitOne K (.ref C.NoBox) (.ref C.NoName) = some false
 i_NoBox_Taken : PySem.W.kitOne K (.ref C.NoBox) (.ref C.Taken) = some false
 i_NoBox_Unknown : PySem.W.kitOne K (.ref C.NoBox) (.ref C.Unknown) = some false
 i_NoBox_NoDeed : PySem.W.kitOne K (.ref C.NoBox) (.ref C.NoDeed) = some false
 i_NoBox_NoLot : PySem.W.kitOne K (.ref C.NoBox) (.ref C.NoLot) = some false
 i_NoBox_NoCount : PySem.W.kitOne K (.ref C.NoBox) (.ref C.NoCount) = some false
 i_NoBox_NoWeights : PySem.W.kitOne K (.ref C.NoBox) (.ref C.NoWeights) = some false
 i_NoBox_NoText : PySem.W.kitOne K (.ref C.NoBox) (.ref C.NoText) = some false
 i_NoBox_NoRow : PySem.W.kitOne K (.ref C.NoBox) (.ref C.NoRow) = some false
 i_TooMany_NoNumber : PySem.W.kitOne K (.ref C.TooMany) (.ref C.NoNumber) = some false
 i_TooMany_NoLine : PySem.W.kitOne K (.ref C.TooMany) (.ref C.NoLine) = some false
 i_TooMany_NoBox : PySem.W.kitOne K (.ref C.TooMany) (.ref C.NoBox) = some false
 i_TooMany_TooMany : PySem.W.kitOne K (.ref C.TooMany) (.ref C.TooMany) = some true
 i_TooMany_NoSpot : PySem.W.kitOne K (.ref C.TooMany) (.ref C.NoSpot) = some false
 i_TooMany_NoName : PySem.W.kitOne K (.ref C.TooMany) (.ref C.NoName) = some false
 i_TooMany_Taken : PySem.W.kitOne K (.ref C.TooMany) (.ref C.Taken) = some false
 i_TooMany_Unknown : PySem.W.kitOne K (.ref C.TooMany) (.ref C.Unknown) = some false
 i_TooMany_NoDeed : PySem.W.kitOne K (.ref C.TooMany) (.ref C.NoDeed) = some false
 i_TooMany_NoLot : PySem.W.kitOne K (.ref C.TooMany) (.ref C.NoLot) = some false
 i_TooMany_NoCount : PySem.W.kitOne K (.ref C.TooMany) (.ref C.NoCount) = some false
 i_TooMany_NoWeights : PySem.W.kitOne K (.ref C.TooMany) (.ref C.NoWeights) = some false
 i_TooMany_NoText : PySem.W.kitOne K (.ref C.TooMany) (.ref C.NoText) = some false
 i_TooMany_NoRow : PySem.W.kitOne K (.ref C.TooMany) (.ref C.NoRow) = some false
 i_NoSpot_NoNumber : PySem.W.kitOne K (.ref C.NoSpot) (.ref C.NoNumber) = some false
 i_NoSpot_NoLine : PySem.W.kitOne K (.ref C.NoSpot) (.ref C.NoLine) = some false
 i_NoSpot_NoBox : PySem.W.kitOne K (.ref C.NoSpot) (.ref C.NoBox) = some false
 i_NoSpot_TooMany : PySem.W.kitOne K (.ref C.NoSpot) (.ref C.TooMany) = some false
 i_NoSpot_NoSpot : PySem.W.kitOne K (.ref C.NoSpot) (.ref C.NoSpot) = some true
 i_NoSpot_NoName : PySem.W.kitOne K (.ref C.NoSpot) (.ref C.NoName) = some false
 i_NoSpot_Taken : PySem.W.kitOne K (.ref C.NoSpot) (.ref C.Taken) = some false
 i_NoSpot_Unknown : PySem.W.kitOne K (.ref C.NoSpot) (.ref C.Unknown) = some false
 i_NoSpot_NoDeed : PySem.W.kitOne K (.ref C.NoSpot) (.ref C.NoDeed) = some false
 i_NoSpot_NoLot : PySem.W.kitOne K (.ref C.NoSpot) (.ref C.NoLot) = some false
 i_NoSpot_NoCount : PySem.W.kitOne K (.ref C.NoSpot) (.ref C.NoCount) = some false
 i_NoSpot_NoWeights : PySem.W.kitOne K (.ref C.NoSpot) (.ref C.NoWeights) = some false
 i_NoSpot_NoText : PySem.W.kitOne K (.ref C.NoSpot) (.ref C.NoText) = some false
 i_NoSpot_NoRow : PySem.W.kitOne K (.ref C.NoSpot) (.ref C.NoRow) = some false
 i_NoName_NoNumber : PySem.W.kitOne K (.ref C.NoName) (.ref C.NoNumber) = some false
 i_NoName_NoLine : PySem.W.kitOne K (.ref C.NoName) (.ref C.NoLine) = some false
 i_NoName_NoBox : PySem.W.kitOne K (.ref C.NoName) (.ref C.NoBox) = some false
 i_NoName_TooMany : PySem.W.kitOne K (.ref C.NoName) (.ref C.TooMany) = some false
 i_NoName_NoSpot : PySem.W.kitOne K (.ref C.NoName) (.ref C.NoSpot) = some false
 i_NoName_NoName : PySem.W.kitOne K (.ref C.NoName) (.ref C.NoName) = some true
 i_NoName_Taken : PySem.W.kitOne K (.ref C.NoName) (.ref C.Taken) = some false
 i_NoName_Unknown : PySem.W.kitOne K (.ref C.NoName) (.ref C.Unknown) = some false
 i_NoName_NoDeed : PySem.W.kitOne K (.ref C.NoName) (.ref C.NoDeed) = some false
 i_NoName_NoLot : PySem.W.kitOne K (.ref C.NoName) (.ref C.NoLot) = some false
 i_NoName_NoCount : PySem.W.kitOne K (.ref C.NoName) (.ref C.NoCount) = some false
 i_NoName_NoWeights : PySem.W.kitOne K (.ref C.NoName) (.ref C.NoWeights) = some false
 i_NoName_NoText : PySem.W.kitOne K (.ref C.NoName) (.ref C.NoText) = some false
 i_NoName_NoRow : PySem.W.kitOne K (.ref C.NoName) (.ref C.NoRow) = some false
 i_Taken_NoNumber : PySem.W.kitOne K (.ref C.Taken) (.ref C.NoNumber) = some false
 i_Taken_NoLine : PySem.W.kitOne K (.ref C.Taken) (.ref C.NoLine) = some false
 i_Taken_NoBox : PySem.W.kitOne K (.ref C.Taken) (.ref C.NoBox) = some false
 i_Taken_TooMany : PySem.W.kitOne K (.ref C.Taken) (.ref C.TooMany) = some false
 i_Taken_NoSpot : PySem.W.kitOne K (.ref C.Taken) (.ref C.NoSpot) = some false
 i_Taken_NoName : PySem.W.kitOne K (.ref C.Taken) (.ref C.NoName) = some false
 i_Taken_Taken : PySem.W.kitOne K (.ref C.Taken) (.ref C.Taken) = some true
 i_Taken_Unknown : PySem.W.kitOne K (.ref C.Taken) (.ref C.Unknown) = some false
 i_Taken_NoDeed : PySem.W.kitOne K (.ref C.Taken) (.ref C.NoDeed) = some false
 i_Taken_NoLot : PySem.W.kitOne K (.ref C.Taken) (.ref C.NoLot) = some false
 i_Taken_NoCount : PySem.W.kitOne K (.ref C.Taken) (.ref C.NoCount) = some false
 i_Taken_NoWeights : PySem.W.kitOne K (.ref C.Taken) (.ref C.NoWeights) = some false
 i_Taken_NoText : PySem.W.kitOne K (.ref C.Taken) (.ref C.NoText) = some false
 i_Taken_NoRow : PySem.W.kitOne K (.ref C.Taken) (.ref C.NoRow) = some false
 i_Unknown_NoNumber : PySem.W.kitOne K (.ref C.Unknown) (.ref C.NoNumber) = some false
 i_Unknown_NoLine : PySem.W.kitOne K (.ref C.Unknown) (.ref C.NoLine) = some false
 i_Unknown_NoBox : PySem.W.kitOne K (.ref C.Unknown) (.ref C.NoBox) = some false
 i_Unknown_TooMany : PySem.W.kitOne K (.ref C.Unknown) (.ref C.TooMany) = some false
 i_Unknown_NoSpot : PySem.W.kitOne K (.ref C.Unknown) (.ref C.NoSpot) = some false
 i_Unknown_NoName : PySem.W.kitOne K (.ref C.Unknown) (.ref C.NoName) = some false
 i_Unknown_Taken : PySem.W.kitOne K (.ref C.Unknown) (.ref C.Taken) = some false
 i_Unknown_Unknown : PySem.W.kitOne K (.ref C.Unknown) (.ref C.Unknown) = some true
 i_Unknown_NoDeed : PySem.W.kitOne K (.ref C.Unknown) (.ref C.NoDeed) = some false
 i_Unknown_NoLot : PySem.W.kitOne K (.ref C.Unknown) (.ref C.NoLot) = some false
 i_Unknown_NoCount : PySem.W.kitOne K (.ref C.Unknown) (.ref C.NoCount) = some false
 i_Unknown_NoWeights : PySem.W.kitOne K (.ref C.Unknown) (.ref C.NoWeights) = some false
 i_Unknown_NoText : PySem.W.kitOne K (.ref C.Unknown) (.ref C.NoText) = some false
 i_Unknown_NoRow : PySem.W.kitOne K (.ref C.Unknown) (.ref C.NoRow) = some false
 i_NoDeed_NoNumber : PySem.W.kitOne K (.ref C.NoDeed) (.ref C.NoNumber) = some false
 i_NoDeed_NoLine : PySem.W.kitOne K (.ref C.NoDeed) (.ref C.NoLine) = some false
 i_NoDeed_NoBox : PySem.W.kitOne K (.ref C.NoDeed) (.ref C.NoBox) = some false
 i_NoDeed_TooMany : PySem.W.kitOne K (.ref C.NoDeed) (.ref C.TooMany) = some false
 i_NoDeed_NoSpot : PySem.W.kitOne K (.ref C.NoDeed) (.ref C.NoSpot) = some false
 i_NoDeed_NoName : PySem.W.kitOne K (.ref C.NoDeed) (.ref C.NoName) = some false
 i_NoDeed_Taken : PySem.W.kitOne K (.ref C.NoDeed) (.ref C.Taken) = some false
 i_NoDeed_Unknown : PySem.W.kitOne K (.ref C.NoDeed) (.ref C.Unknown) = some false
 i_NoDeed_NoDeed : PySem.W.kitOne K (.ref C.NoDeed) (.ref C.NoDeed) = some true
 i_NoDeed_NoLot : PySem.W.kitOne K (.ref C.NoDeed) (.ref C.NoLot) = some false
 i_NoDeed_NoCount : PySem.W.kitOne K (.ref C.NoDeed) (.ref C.NoCount) = some false
 i_NoDeed_NoWeights : PySem.W.kitOne K (.ref C.NoDeed) (.ref C.NoWeights) = some false
 i_NoDeed_NoText : PySem.W.kitOne K (.ref C.NoDeed) (.ref C.NoText) = some false
 i_NoDeed_NoRow : PySem.W.kitOne K (.ref C.NoDeed) (.ref C.NoRow) = some false
 i_NoLot_NoNumber : PySem.W.kitOne K (.ref C.NoLot) (.ref C.NoNumber) = some false
 i_NoLot_NoLine : PySem.W.kitOne K (.ref C.NoLot) (.ref C.NoLine) = some false
 i_NoLot_NoBox : PySem.W.kitOne K (.ref C.NoLot) (.ref C.NoBox) = some false
 i_NoLot_TooMany : PySem.W.kitOne K (.ref C.NoLot) (.ref C.TooMany) = some false
 i_NoLot_NoSpot : PySem.W.kitOne K (.ref C.NoLot) (.ref C.NoSpot) = some false
 i_NoLot_NoName : PySem.W.kitOne K (.ref C.NoLot) (.ref C.NoName) = some false
 i_NoLot_Taken : PySem.W.kitOne K (.ref C.NoLot) (.ref C.Taken) = some false
 i_NoLot_Unknown : PySem.W.kitOne K (.ref C.NoLot) (.ref C.Unknown) = some false
 i_NoLot_NoDeed : PySem.W.kitOne K (.ref C.NoLot) (.ref C.NoDeed) = some false
 i_NoLot_NoLot : PySem.W.kitOne K (.ref C.NoLot) (.ref C.NoLot) = some true
 i_NoLot_NoCount : PySem.W.kitOne K (.ref C.NoLot) (.ref C.NoCount) = some false
 i_NoLot_NoWeights : PySem.W.kitOne K (.ref C.NoLot) (.ref C.NoWeights) = some false
 i_NoLot_NoText : PySem.W.kitOne K (.ref C.NoLot) (.ref C.NoText) = some false
 i_NoLot_NoRow : PySem.W.kitOne K (.ref C.NoLot) (.ref C.NoRow) = some false
 i_NoCount_NoNumber : PySem.W.kitOne K (.ref C.NoCount) (.ref C.NoNumber) = some false
 i_NoCount_NoLine : PySem.W.kitOne K (.ref C.NoCount) (.ref C.NoLine) = some false
 i_NoCount_NoBox : PySem.W.kitOne K (.ref C.NoCount) (.ref C.NoBox) = some false
 i_NoCount_TooMany : PySem.W.kitOne K (.ref C.NoCount) (.ref C.TooMany) = some false
 i_NoCount_NoSpot : PySem.W.kitOne K (.ref C.NoCount) (.ref C.NoSpot) = some false
 i_NoCount_NoName : PySem.W.kitOne K (.ref C.NoCount) (.ref C.NoName) = some false
 i_NoCount_Taken : PySem.W.kitOne K (.ref C.NoCount) (.ref C.Taken) = some false
 i_NoCount_Unknown : PySem.W.kitOne K (.ref C.NoCount) (.ref C.Unknown) = some false
 i_NoCount_NoDeed : PySem.W.kitOne K (.ref C.NoCount) (.ref C.NoDeed) = some false
 i_NoCount_NoLot : PySem.W.kitOne K (.ref C.NoCount) (.ref C.NoLot) = some false
 i_NoCount_NoCount : PySem.W.kitOne K (.ref C.NoCount) (.ref C.NoCount) = some true
 i_NoCount_NoWeights : PySem.W.kitOne K (.ref C.NoCount) (.ref C.NoWeights) = some false
 i_NoCount_NoText : PySem.W.kitOne K (.ref C.NoCount) (.ref C.NoText) = some false
 i_NoCount_NoRow : PySem.W.kitOne K (.ref C.NoCount) (.ref C.NoRow) = some false
 i_NoWeights_NoNumber : PySem.W.kitOne K (.ref C.NoWeights) (.ref C.NoNumber) = some false
 i_NoWeights_NoLine : PySem.W.kitOne K (.ref C.NoWeights) (.ref C.NoLine) = some false
 i_NoWeights_NoBox : PySem.W.kitOne K (.ref C.NoWeights) (.ref C.NoBox) = some false
 i_NoWeights_TooMany : PySem.W.kitOne K (.ref C.NoWeights) (.ref C.TooMany) = some false
 i_NoWeights_NoSpot : PySem.W.kitOne K (.ref C.NoWeights) (.ref C.NoSpot) = some false
 i_NoWeights_NoName : PySem.W.kitOne K (.ref C.NoWeights) (.ref C.NoName) = some false
 i_NoWeights_Taken : PySem.W.kitOne K (.ref C.NoWeights) (.ref C.Taken) = some false
 i_NoWeights_Unknown : PySem.W.kitOne K (.ref C.NoWeights) (.ref C.Unknown) = some false
 i_NoWeights_NoDeed : PySem.W.kitOne K (.ref C.NoWeights) (.ref C.NoDeed) = some false
 i_NoWeights_NoLot : PySem.W.kitOne K (.ref C.NoWeights) (.ref C.NoLot) = some false
 i_NoWeights_NoCount : PySem.W.kitOne K (.ref C.NoWeights) (.ref C.NoCount) = some false
 i_NoWeights_NoWeights : PySem.W.kitOne K (.ref C.NoWeights) (.ref C.NoWeights) = some true
 i_NoWeights_NoText : PySem.W.kitOne K (.ref C.NoWeights) (.ref C.NoText) = some false
 i_NoWeights_NoRow : PySem.W.kitOne K (.ref C.NoWeights) (.ref C.NoRow) = some false
 i_NoText_NoNumber : PySem.W.kitOne K (.ref C.NoText) (.ref C.NoNumber) = some false
 i_NoText_NoLine : PySem.W.kitOne K (.ref C.NoText) (.ref C.NoLine) = some false
 i_NoText_NoBox : PySem.W.kitOne K (.ref C.NoText) (.ref C.NoBox) = some false
 i_NoText_TooMany : PySem.W.kitOne K (.ref C.NoText) (.ref C.TooMany) = some false
 i_NoText_NoSpot : PySem.W.kitOne K (.ref C.NoText) (.ref C.NoSpot) = some false
 i_NoText_NoName : PySem.W.kitOne K (.ref C.NoText) (.ref C.NoName) = some false
 i_NoText_Taken : PySem.W.kitOne K (.ref C.NoText) (.ref C.Taken) = some false
 i_NoText_Unknown : PySem.W.kitOne K (.ref C.NoText) (.ref C.Unknown) = some false
 i_NoText_NoDeed : PySem.W.kitOne K (.ref C.NoText) (.ref C.NoDeed) = some false
 i_NoText_NoLot : PySem.W.kitOne K (.ref C.NoText) (.ref C.NoLot) = some false
 i_NoText_NoCount : PySem.W.kitOne K (.ref C.NoText) (.ref C.NoCount) = some false
 i_NoText_NoWeights : PySem.W.kitOne K (.ref C.NoText) (.ref C.NoWeights) = some false
 i_NoText_NoText : PySem.W.kitOne K (.ref C.NoText) (.ref C.NoText) = some true
 i_NoText_NoRow : PySem.W.kitOne K (.ref C.NoText) (.ref C.NoRow) = some false
 i_NoRow_NoNumber : PySem.W.kitOne K (.ref C.NoRow) (.ref C.NoNumber) = some false
 i_NoRow_NoLine : PySem.W.kitOne K (.ref C.NoRow) (.ref C.NoLine) = some false
 i_NoRow_NoBox : PySem.W.kitOne K (.ref C.NoRow) (.ref C.NoBox) = some false
 i_NoRow_TooMany : PySem.W.kitOne K (.ref C.NoRow) (.ref C.TooMany) = some false
 i_NoRow_NoSpot : PySem.W.kitOne K (.ref C.NoRow) (.ref C.NoSpot) = some false
 i_NoRow_NoName : PySem.W.kitOne K (.ref C.NoRow) (.ref C.NoName) = some false
 i_NoRow_Taken : PySem.W.kitOne K (.ref C.NoRow) (.ref C.Taken) = some false
 i_NoRow_Unknown : PySem.W.kitOne K (.ref C.NoRow) (.ref C.Unknown) = some false
 i_NoRow_NoDeed : PySem.W.kitOne K (.ref C.NoRow) (.ref C.NoDeed) = some false
 i_NoRow_NoLot : PySem.W.kitOne K (.ref C.NoRow) (.ref C.NoLot) = some false
 i_NoRow_NoCount : PySem.W.kitOne K (.ref C.NoRow) (.ref C.NoCount) = some false
 i_NoRow_NoWeights : PySem.W.kitOne K (.ref C.NoRow) (.ref C.NoWeights) = some false
 i_NoRow_NoText : PySem.W.kitOne K (.ref C.NoRow) (.ref C.NoText) = some false
 i_NoRow_NoRow : PySem.W.kitOne K (.ref C.NoRow) (.ref C.NoRow) = some true
end LW
namespace LW
open PySem L2 MA PyProof.Rows
noncomputable def cN (C : Cz) : Nat → Addr
 | 0 => C.NoNumber
 | 1 => C.NoLine
 | 2 => C.NoBox
 | 3 => C.TooMany
 | 4 => C.NoSpot
 | 5 => C.NoName
 | 6 => C.Taken
 | 7 => C.Unknown
 | 8 => C.NoDeed
 | 9 => C.NoLot
 | 10 => C.NoCount
 | 11 => C.NoWeights
 | 12 => C.NoText
 | _ => C.NoRow
theorem upto14 {w : Int} (h : 0 ≤ w) (l : w < 14) : w = 0 ∨ w = 1 ∨ w = 2 ∨ w = 3 ∨ w = 4 ∨ w = 5 ∨ w = 6 ∨ w = 7 ∨ w = 8 ∨ w = 9 ∨ w = 10 ∨ w = 11 ∨ w = 12 ∨ w = 13 := by omega
noncomputable def sp_raised (C : Cz) : Sp := fun vs H Q E => ∃ (w : Int) (a : V), vs = [.int w, a] ∧ 0 ≤ w ∧ w < 14 ∧ (w = 4 → ∀ dx, H dx = none → E (.ref C.NoSpot) (some dx) (upd H dx (.xd [("at", a)]))) ∧ (w ≠ 4 → E (.ref (cN C w.toNat)) none H)
structure ClsAll (K : PySem.W.Frag) (C : Cz) : Prop where
 eb : ∀ n, n < 14 → ExcB K (cN C n)
 ve : ∀ n, n < 14 → PySem.W.kitOne K (.ref (cN C n)) (.type "ValueError") = some true
 is_ : ∀ n i, n < 14 → i < 14 → PySem.W.kitOne K (.ref (cN C n)) (.ref (cN C i)) = some (decide (i = n))
 le : ∀ n, n < 14 → PySem.W.exmOne K (.ref (cN C n)) (.ref C.LandError) = some true
theorem below14 {n : Nat} (l : n < 14) : n = 0 ∨ n = 1 ∨ n = 2 ∨ n = 3 ∨ n = 4 ∨ n = 5 ∨ n = 6 ∨ n = 7 ∨ n = 8 ∨ n = 9 ∨ n = 10 ∨ n = 11 ∨ n = 12 ∨ n = 13 := by omega
noncomputable def sp_truths (K : PySem.W.Frag) (C : Cz) : Sp := fun vs H Q _ => ∃ (e : Addr) (n : Nat) (od : Option Addr), vs = [.ref e] ∧ n < 14 ∧ ClsAll K C ∧ H e = some (excD e (cN C n) od) ∧ ∀ t H', Ext H H' → H' t = some (.lst (((List.range 14).map fun i => decide (i = n)).map V.bl)) → Q (.ref t) H'
noncomputable def sp_right (K : PySem.W.Frag) (C : Cz) : Sp := fun vs H Q _ => ∃ (w : Int) (a : V), vs = [.int w, a] ∧ 0 ≤ w ∧ w < 14 ∧ ClsAll K C ∧ (a = .non ∨ ∃ i, a = .int i) ∧ ∀ H', Ext H H' → Q (.bl true) H'
theorem count_one (n : Nat) (h : n < 14) : ((List.range 14).map fun i => decide (i = n)).count true = 1 := by
 rcases below14 h with rfl | rfl | rfl | rfl | rfl | rfl | rfl | rfl | rfl | rfl | rfl | rfl | rfl | rfl <;> rfl
theorem idx_one (n : Nat) (h : n < 14) : ((List.range 14).map fun i => decide (i = n)).idxOf true = n := by
 rcases below14 h with rfl | rfl | rfl | rfl | rfl | rfl | rfl | rfl | rfl | rfl | rfl | rfl | rfl | rfl <;> rfl
theorem mem_one (n : Nat) (h : n < 14) : true ∈ (List.range 14).map fun i => decide (i = n) := List.mem_map.mpr ⟨n, List.mem_range.mpr h, by simp⟩
theorem cut_to' (xs : List V) (k : Nat) : cutV xs none (some (k : Int)) = xs.take k := by
 unfold cutV
 have e1 : HT.sIx xs.length 0 none = 0 := rfl
 rw [e1, List.drop_zero, Nat.sub_zero]
 have e2 : HT.sIx xs.length xs.length (some (k : Int)) = min k xs.length := by
  unfold HT.sIx
  simp only []
  split <;> omega
 rw [e2]
 rcases Nat.le_total k xs.length with z | z
 ·rw [Nat.min_eq_left z]
 ·rw [Nat.min_eq_right z, List.take_of_length_le (Nat.le_refl _), List.take_of_length_le z]
noncomputable def sp_law (K : PySem.W.Frag) : Sp := fun vs H Q _ => ∃ (a : Addr) (ns : List Int), vs = [.ref a] ∧ SqL K H a (ns.map V.int) ∧ ns.length ≤ 63 ∧ ∀ H', Q (.bl true) H'
end LW
namespace LW
open PySem L2 MA PyProof.Rows
section
variable {P : Program} {w : World} {K : PySem.W.Frag} {mg : Str → Option Value} {base : Heap}
theorem sc__law_raised : FnScope ["_law_way", "_law_at"] ["_law_way", "_law_at"] (defScope s__law_raised) := ⟨rfl, rfl, rfl, by decide +kernel, rfl, by decide +kernel, by decide +kernel⟩
set_option maxHeartbeats 0 in
theorem ok__law_raised {C : Cz} {f : Addr} {fd : FuncData} (F : Fun K "_law_raised" "_law_raised" s__law_raised f fd) (T : Txt P K mg C)  : FnOk P w K mg base (CXE P w) 1 f fd ["_law_way", "_law_at"] (sp_raised C) := by
 refine okE F (k := 0) sc__law_raised (fun vs H Q E h => ?_) (fun cdv A outer s H vs Q E hr h => ?_)
 ·obtain ⟨w, a, rfl, _⟩ := h
  rfl
 ·obtain ⟨w, a, rfl, h⟩ := h
  refine' ⟨_, ?main, ?rest⟩
  case main =>
   refine' pss_cons ?c1 ?c2
   case' c1 => refine' ps_if ?c3 ?c4 pss_nil
   case' c3 => exact (pt_cmpR op_eq (pv 0) pe_int (nomark _))
   case' c4 => refine' pss_one ?c5
   case' c5 => refine' ps_raise (K := K) rfl madeE T.x_NoNumber rfl T.g_NoNumber ?c6
   case' c6 => exact (pa_cons pe_str pa_nil)
   case' c2 => refine' pss_cons ?c7 ?c8
   case' c7 => refine' ps_if ?c9 ?c10 pss_nil
   case' c9 => exact (pt_cmpR op_eq (pv 0) pe_int (nomark _))
   case' c10 => exact (pss_one (ps_raise0 (K := K) rfl madeE T.x_NoLine rfl T.g_NoLine))
   case' c8 => refine' pss_cons ?c11 ?c12
   case' c11 => refine' ps_if ?c13 ?c14 pss_nil
   case' c13 => exact (pt_cmpR op_eq (pv 0) pe_int (nomark _))
   case' c14 => refine' pss_one ?c15
   case' c15 => refine' ps_raise (K := K) rfl madeE T.x_NoBox rfl T.g_NoBox ?c16
   case' c16 => exact (pa_cons pe_str pa_nil)
   case' c12 => refine' pss_cons ?c17 ?c18
   case' c17 => refine' ps_if ?c19 ?c20 pss_nil
   case' c19 => exact (pt_cmpR op_eq (pv 0) pe_int (nomark _))
   case' c20 => exact (pss_one (ps_raise0 (K := K) rfl madeE T.x_TooMany rfl T.g_TooMany))
   case' c18 => refine' pss_cons ?c21 ?c22
   case' c21 => refine' ps_if ?c23 ?c24 pss_nil
   case' c23 => exact (pt_cmpR op_eq (pv 0) pe_int (nomark _))
   case' c24 => refine' pss_one ?c25
   case' c25 => refine' ps_raiseN (K := K) rfl madeN T.n_NoSpot T.kp_NoSpot rfl T.g_NoSpot T.b_super hr ?c26
   case' c26 => exact (pa_cons (pv 1) pa_nil)
   case' c22 => refine' pss_cons ?c27 ?c28
   case' c27 => refine' ps_if ?c29 ?c30 pss_nil
   case' c29 => exact (pt_cmpR op_eq (pv 0) pe_int (nomark _))
   case' c30 => refine' pss_one ?c31
   case' c31 => refine' ps_raise (K := K) rfl madeE T.x_NoName rfl T.g_NoName ?c32
   case' c32 => exact (pa_cons pe_str pa_nil)
   case' c28 => refine' pss_cons ?c33 ?c34
   case' c33 => refine' ps_if ?c35 ?c36 pss_nil
   case' c35 => exact (pt_cmpR op_eq (pv 0) pe_int (nomark _))
   case' c36 => exact (pss_one (ps_raise0 (K := K) rfl madeE T.x_Taken rfl T.g_Taken))
   case' c34 => refine' pss_cons ?c37 ?c38
   case' c37 => refine' ps_if ?c39 ?c40 pss_nil
   case' c39 => exact (pt_cmpR op_eq (pv 0) pe_int (nomark _))
   case' c40 => refine' pss_one ?c41
   case' c41 => refine' ps_raise (K := K) rfl madeE T.x_Unknown rfl T.g_Unknown ?c42
   case' c42 => exact (pa_cons pe_str pa_nil)
   case' c38 => refine' pss_cons ?c43 ?c44
   case' c43 => refine' ps_if ?c45 ?c46 pss_nil
   case' c45 => exact (pt_cmpR op_eq (pv 0) pe_int (nomark _))
   case' c46 => exact (pss_one (ps_raise0 (K := K) rfl madeE T.x_NoDeed rfl T.g_NoDeed))
   case' c44 => refine' pss_cons ?c47 ?c48
   case' c47 => refine' ps_if ?c49 ?c50 pss_nil
   case' c49 => exact (pt_cmpR op_eq (pv 0) pe_int (nomark _))
   case' c50 => refine' pss_one ?c51
   case' c51 => refine' ps_raise (K := K) rfl madeE T.x_NoLot rfl T.g_NoLot ?c52
   case' c52 => exact (pa_cons pe_str pa_nil)
   case' c48 => refine' pss_cons ?c53 ?c54
   case' c53 => refine' ps_if ?c55 ?c56 pss_nil
   case' c55 => exact (pt_cmpR op_eq (pv 0) pe_int (nomark _))
   case' c56 => exact (pss_one (ps_raise0 (K := K) rfl madeE T.x_NoCount rfl T.g_NoCount))
   case' c54 => refine' pss_cons ?c57 ?c58
   case' c57 => refine' ps_if ?c59 ?c60 pss_nil
   case' c59 => exact (pt_cmpR op_eq (pv 0) pe_int (nomark _))
   case' c60 => refine' pss_one ?c61
   case' c61 => refine' ps_raise (K := K) rfl madeE T.x_NoWeights rfl T.g_NoWeights ?c62
   case' c62 => exact (pa_cons pe_str pa_nil)
   case' c58 => refine' pss_cons ?c63 ?c64
   case' c63 => refine' ps_if ?c65 ?c66 pss_nil
   case' c65 => exact (pt_cmpR op_eq (pv 0) pe_int (nomark _))
   case' c66 => exact (pss_one (ps_raise0 (K := K) rfl madeE T.x_NoText rfl T.g_NoText))
   case' c64 => refine' pss_one ?c67
   case' c67 => refine' ps_raise (K := K) rfl madeE T.x_NoRow rfl T.g_NoRow ?c68
   case' c68 => exact (pa_cons pe_str pa_nil)
  case rest =>
   obtain ⟨w0, w14, h4, h⟩ := h
   simp only [L2.start, List.map_cons, List.map_nil, List.length_cons, List.length_nil, Nat.reduceAdd, Nat.reduceSub, List.replicate_succ, List.replicate_zero, List.cons_append, List.nil_append, List.append_nil]
   o_head ⟨tRaiseN, tAt, tTryN⟩
   rcases upto14 w0 w14 with rfl | rfl | rfl | rfl | rfl | rfl | rfl | rfl | rfl | rfl | rfl | rfl | rfl | rfl
   all_goals simp only [Int.reduceEq, if_true, if_false, reduceIte]
   ·exact ⟨by decide, h (by decide)⟩
   ·exact h (by decide)
   ·exact ⟨by decide, h (by decide)⟩
   ·exact h (by decide)
   ·exact h4 rfl
   ·exact ⟨by decide, h (by decide)⟩
   ·exact h (by decide)
   ·exact ⟨by decide, h (by decide)⟩
   ·exact h (by decide)
   ·exact ⟨by decide, h (by decide)⟩
   ·exact h (by decide)
   ·exact ⟨by decide, h (by decide)⟩
   ·exact h (by decide)
   ·exact ⟨by decide, h (by decide)⟩
end
end LW
namespace LW
open PySem L2 MA PyProof.Rows
section
variable {P : Program} {w : World} {K : PySem.W.Frag} {mg : Str → Option Value} {base : Heap}
theorem sc__law_truths : FnScope ["_law_e", "_law_found"] ["_law_e"] (defScope s__law_truths) := ⟨rfl, rfl, rfl, by decide +kernel, rfl, by decide +kernel, by decide +kernel⟩
set_option maxHeartbeats 0 in
theorem ok__law_truths {C : Cz} {f : Addr} {fd : FuncData} (F : Fun K "_law_truths" "_law_truths" s__law_truths f fd) (T : Txt P K mg C)  : FnOk P w K mg base (CXE P w) 1 f fd ["_law_e"] (sp_truths K C) := by
 refine okN F (k := 0) sc__law_truths (fun vs H Q E h => ?_) (fun cdv A outer s H vs Q E hr h => ?_)
 ·obtain ⟨e, n, od, rfl, _⟩ := h
  rfl
 ·obtain ⟨e, n, od, rfl, h⟩ := h
  refine' ⟨_, ?main, ?rest⟩
  case main =>
   refine' pss_cons ?c1 ?c2
   case' c1 => refine' ps_set (i := 1) ?c3 ?c4 ?c5 ?c6
   case c3 => exact sc__law_truths.nd
   case c4 => exact rfl
   case c5 => exact (Or.inl rfl)
   case' c6 => refine' pe_lst ?c7
   case' c7 => refine' pa_cons ?c8 ?c9
   case' c8 => refine' pe_callB (call_isiX (K := K) rfl) (by rfl) T.b_isinstance boot_isinstance ?c10
   case' c10 => refine' pa_cons (pv 0) ?c11
   case' c11 => exact (pa_cons (pe_glob (v := V.ref C.NoNumber) rfl T.g_NoNumber rfl) pa_nil)
   case' c9 => refine' pa_cons ?c12 ?c13
   case' c12 => refine' pe_callB (call_isiX (K := K) rfl) (by rfl) T.b_isinstance boot_isinstance ?c14
   case' c14 => refine' pa_cons (pv 0) ?c15
   case' c15 => exact (pa_cons (pe_glob (v := V.ref C.NoLine) rfl T.g_NoLine rfl) pa_nil)
   case' c13 => refine' pa_cons ?c16 ?c17
   case' c16 => refine' pe_callB (call_isiX (K := K) rfl) (by rfl) T.b_isinstance boot_isinstance ?c18
   case' c18 => refine' pa_cons (pv 0) ?c19
   case' c19 => exact (pa_cons (pe_glob (v := V.ref C.NoBox) rfl T.g_NoBox rfl) pa_nil)
   case' c17 => refine' pa_cons ?c20 pa_nil
   case' c20 => refine' pe_callB (call_isiX (K := K) rfl) (by rfl) T.b_isinstance boot_isinstance ?c21
   case' c21 => refine' pa_cons (pv 0) ?c22
   case' c22 => exact (pa_cons (pe_glob (v := V.ref C.TooMany) rfl T.g_TooMany rfl) pa_nil)
   case' c2 => refine' pss_cons ?c23 ?c24
   case' c23 => refine' ps_set (i := 1) ?c25 ?c26 ?c27 ?c28
   case c25 => exact sc__law_truths.nd
   case c26 => exact rfl
   case c27 => exact (Or.inl rfl)
   case' c28 => refine' pe_op ?c29 ?c30 ?c31
   case c29 => exact op_catF
   case c30 => exact (pv 1)
   case' c31 => refine' pe_lst ?c32
   case' c32 => refine' pa_cons ?c33 ?c34
   case' c33 => refine' pe_callB (call_isiX (K := K) rfl) (by rfl) T.b_isinstance boot_isinstance ?c35
   case' c35 => refine' pa_cons (pv 0) ?c36
   case' c36 => exact (pa_cons (pe_glob (v := V.ref C.NoSpot) rfl T.g_NoSpot rfl) pa_nil)
   case' c34 => refine' pa_cons ?c37 ?c38
   case' c37 => refine' pe_callB (call_isiX (K := K) rfl) (by rfl) T.b_isinstance boot_isinstance ?c39
   case' c39 => refine' pa_cons (pv 0) ?c40
   case' c40 => exact (pa_cons (pe_glob (v := V.ref C.NoName) rfl T.g_NoName rfl) pa_nil)
   case' c38 => refine' pa_cons ?c41 ?c42
   case' c41 => refine' pe_callB (call_isiX (K := K) rfl) (by rfl) T.b_isinstance boot_isinstance ?c43
   case' c43 => refine' pa_cons (pv 0) ?c44
   case' c44 => exact (pa_cons (pe_glob (v := V.ref C.Taken) rfl T.g_Taken rfl) pa_nil)
   case' c42 => refine' pa_cons ?c45 pa_nil
   case' c45 => refine' pe_callB (call_isiX (K := K) rfl) (by rfl) T.b_isinstance boot_isinstance ?c46
   case' c46 => refine' pa_cons (pv 0) ?c47
   case' c47 => exact (pa_cons (pe_glob (v := V.ref C.Unknown) rfl T.g_Unknown rfl) pa_nil)
   case' c24 => refine' pss_cons ?c48 ?c49
   case' c48 => refine' ps_set (i := 1) ?c50 ?c51 ?c52 ?c53
   case c50 => exact sc__law_truths.nd
   case c51 => exact rfl
   case c52 => exact (Or.inl rfl)
   case' c53 => refine' pe_op ?c54 ?c55 ?c56
   case c54 => exact op_catF
   case c55 => exact (pv 1)
   case' c56 => refine' pe_lst ?c57
   case' c57 => refine' pa_cons ?c58 ?c59
   case' c58 => refine' pe_callB (call_isiX (K := K) rfl) (by rfl) T.b_isinstance boot_isinstance ?c60
   case' c60 => refine' pa_cons (pv 0) ?c61
   case' c61 => exact (pa_cons (pe_glob (v := V.ref C.NoDeed) rfl T.g_NoDeed rfl) pa_nil)
   case' c59 => refine' pa_cons ?c62 ?c63
   case' c62 => refine' pe_callB (call_isiX (K := K) rfl) (by rfl) T.b_isinstance boot_isinstance ?c64
   case' c64 => refine' pa_cons (pv 0) ?c65
   case' c65 => exact (pa_cons (pe_glob (v := V.ref C.NoLot) rfl T.g_NoLot rfl) pa_nil)
   case' c63 => refine' pa_cons ?c66 ?c67
   case' c66 => refine' pe_callB (call_isiX (K := K) rfl) (by rfl) T.b_isinstance boot_isinstance ?c68
   case' c68 => refine' pa_cons (pv 0) ?c69
   case' c69 => exact (pa_cons (pe_glob (v := V.ref C.NoCount) rfl T.g_NoCount rfl) pa_nil)
   case' c67 => refine' pa_cons ?c70 pa_nil
   case' c70 => refine' pe_callB (call_isiX (K := K) rfl) (by rfl) T.b_isinstance boot_isinstance ?c71
   case' c71 => refine' pa_cons (pv 0) ?c72
   case' c72 => exact (pa_cons (pe_glob (v := V.ref C.NoWeights) rfl T.g_NoWeights rfl) pa_nil)
   case' c49 => refine' pss_one ?c73
   case' c73 => refine' ps_ret ?c74
   case' c74 => refine' pe_op ?c75 ?c76 ?c77
   case c75 => exact op_catF
   case c76 => exact (pv 1)
   case' c77 => refine' pe_lst ?c78
   case' c78 => refine' pa_cons ?c79 ?c80
   case' c79 => refine' pe_callB (call_isiX (K := K) rfl) (by rfl) T.b_isinstance boot_isinstance ?c81
   case' c81 => refine' pa_cons (pv 0) ?c82
   case' c82 => exact (pa_cons (pe_glob (v := V.ref C.NoText) rfl T.g_NoText rfl) pa_nil)
   case' c80 => refine' pa_cons ?c83 pa_nil
   case' c83 => refine' pe_callB (call_isiX (K := K) rfl) (by rfl) T.b_isinstance boot_isinstance ?c84
   case' c84 => refine' pa_cons (pv 0) ?c85
   case' c85 => exact (pa_cons (pe_glob (v := V.ref C.NoRow) rfl T.g_NoRow rfl) pa_nil)
  case rest =>
   obtain ⟨l14, A, he, h⟩ := h
   simp only [L2.start, List.map_cons, List.map_nil, List.length_cons, List.length_nil, Nat.reduceAdd, Nat.reduceSub, List.replicate_succ, List.replicate_zero, List.cons_append, List.nil_append, List.append_nil]
   o_head ⟨tRaiseN, tAt, tTryN⟩
   refine rIsiX_c he (A.eb n l14) (A.is_ n 0 l14 (by decide)) ?_
   refine rIsiX_c he (A.eb n l14) (A.is_ n 1 l14 (by decide)) ?_
   refine rIsiX_c he (A.eb n l14) (A.is_ n 2 l14 (by decide)) ?_
   refine rIsiX_c he (A.eb n l14) (A.is_ n 3 l14 (by decide)) ?_
   refine ⟨by decide, fun p1 h1 => ?_⟩
   refine rIsiX_c (upd_f h1 he) (A.eb n l14) (A.is_ n 4 l14 (by decide)) ?_
   refine rIsiX_c (upd_f h1 he) (A.eb n l14) (A.is_ n 5 l14 (by decide)) ?_
   refine rIsiX_c (upd_f h1 he) (A.eb n l14) (A.is_ n 6 l14 (by decide)) ?_
   refine rIsiX_c (upd_f h1 he) (A.eb n l14) (A.is_ n 7 l14 (by decide)) ?_
   refine ⟨by decide, fun p2 h2 => ?_⟩
   rw [upd_f h2 upd_same, lstOf_l, optK_some]
   refine ⟨(show 8 < 1000000 by decide), fun p3 h3 => ?_⟩
   refine rIsiX_c (upd_f h3 (upd_f h2 (upd_f h1 he))) (A.eb n l14) (A.is_ n 8 l14 (by decide)) ?_
   refine rIsiX_c (upd_f h3 (upd_f h2 (upd_f h1 he))) (A.eb n l14) (A.is_ n 9 l14 (by decide)) ?_
   refine rIsiX_c (upd_f h3 (upd_f h2 (upd_f h1 he))) (A.eb n l14) (A.is_ n 10 l14 (by decide)) ?_
   refine rIsiX_c (upd_f h3 (upd_f h2 (upd_f h1 he))) (A.eb n l14) (A.is_ n 11 l14 (by decide)) ?_
   refine ⟨by decide, fun p4 h4 => ?_⟩
   rw [upd_f h4 upd_same, lstOf_l, optK_some]
   refine ⟨(show 12 < 1000000 by decide), fun p5 h5 => ?_⟩
   refine rIsiX_c (upd_f h5 (upd_f h4 (upd_f h3 (upd_f h2 (upd_f h1 he))))) (A.eb n l14) (A.is_ n 12 l14 (by decide)) ?_
   refine rIsiX_c (upd_f h5 (upd_f h4 (upd_f h3 (upd_f h2 (upd_f h1 he))))) (A.eb n l14) (A.is_ n 13 l14 (by decide)) ?_
   refine ⟨by decide, fun p6 h6 => ?_⟩
   rw [upd_f h6 upd_same, lstOf_l, optK_some]
   refine ⟨(show 14 < 1000000 by decide), fun p7 h7 => ?_⟩
   exact h p7 _ (((((((Ext.upd h1).then h2).then h3).then h4).then h5).then h6).then h7) upd_same
end
end LW
namespace LW
open PySem L2 MA PyProof.Rows
section
variable {P : Program} {w : World} {K : PySem.W.Frag} {mg : Str → Option Value} {base : Heap}
theorem sc__law_right : FnScope ["_law_way", "_law_at", "_law_caught", "_law_e", "_law_truths_here"] ["_law_way", "_law_at"] (defScope s__law_right) := ⟨rfl, rfl, rfl, by decide +kernel, rfl, by decide +kernel, by decide +kernel⟩
set_option maxHeartbeats 0 in
theorem ok__law_right {C : Cz} {f : Addr} {fd : FuncData} (F : Fun K "_law_right" "_law_right" s__law_right f fd) (T : Txt P K mg C) (F__law_truths : FnB P w K mg base (CXE P w) 1 "_law_truths" ["_law_e"] (sp_truths K C)) (F__law_raised : FnB P w K mg base (CXE P w) 1 "_law_raised" ["_law_way", "_law_at"] (sp_raised C)) : FnOk P w K mg base (CXE P w) 2 f fd ["_law_way", "_law_at"] (sp_right K C) := by
 refine okN F (k := 1) sc__law_right (fun vs H Q E h => ?_) (fun cdv A outer s H vs Q E hr h => ?_)
 ·obtain ⟨w, a, rfl, _⟩ := h
  rfl
 ·obtain ⟨w, a, rfl, h⟩ := h
  refine' ⟨_, ?main, ?rest⟩
  case main =>
   refine' pss_cons ?c1 ?c2
   case' c1 => exact (ps_set (i := 2) sc__law_right.nd rfl (Or.inl rfl) pe_non)
   case' c2 => refine' pss_cut ?c3 ?c4
   case' c3 => refine' ps_try (K := K) (cD := C.LandError) (i := 3) ?c5 ?c6 ?c7 ?c8 ?c9 ?c10 ?c11 ?c12 ?c13 ?c14
   case c5 => exact rfl
   case' c6 => exact (fun pn W E1 σ0 hx => (pss_one (ps_expr (pe_fnS F__law_raised (hr.mono (by decide)) rfl hx (pa_cons (pv 0) (pa_cons (pv 1) pa_nil))))))
   case' c7 => exact (fun ev => (pss_one (ps_set (i := 2) sc__law_right.nd rfl (Or.inl rfl) (pv 3))))
   case c8 => exact rfl
   case c9 => exact rfl
   case c10 => exact sc__law_right.nd
   case c11 => exact rfl
   case c12 => exact rfl
   case c13 => exact rfl
   case c14 => exact T.g_LandError
   case' c4 => refine' pss_cons ?c15 ?c16
   case' c15 => refine' ps_if ?c17 ?c18 ?c19
   case' c17 => refine' PW.pt ?c20
   case' c20 => refine' pw_or ?c21 ?c22
   case' c21 => exact (pt_cmp (pc_isN (pv 2)))
   case' c22 => refine' pw_or1 ?c23
   case' c23 => refine' pt_not ?c24
   case' c24 => refine' pt_val ?c25
   case' c25 => refine' pe_callB (call_isiX (K := K) rfl) (by rfl) T.b_isinstance boot_isinstance ?c26
   case' c26 => refine' pa_cons (pv 2) ?c27
   case' c27 => exact (pa_cons (pe_bltn (v := V.ty "ValueError") rfl T.b_ValueError boot_ValueError rfl) pa_nil)
   case' c18 => refine' pss_one ?c28
   case' c28 => exact (ps_ret pe_bl)
   case c19 => exact pss_nil
   case' c16 => refine' pss_cons ?c29 ?c30
   case' c29 => refine' ps_set (i := 4) sc__law_right.nd rfl (Or.inl rfl) ?c31
   case' c31 => refine' pe_fn F__law_truths (hr.mono (by decide)) rfl passE0 ?c32
   case' c32 => exact (pa_cons (pv 2) pa_nil)
   case' c30 => refine' pss_cons ?c33 ?c34
   case' c33 => refine' ps_if ?c35 ?c36 ?c37
   case' c35 => refine' PW.pt ?c38
   case' c38 => refine' pw_or ?c39 ?c40
   case' c39 => refine' pt_cmpR op_ne ?c41 pe_int (nomark _)
   case' c41 => refine' pe_cntB (pv 4) ?c42
   case' c42 => exact (pa_cons pe_bl pa_nil)
   case' c40 => refine' pw_or1 ?c43
   case' c43 => refine' pt_cmpR op_ne ?c44 (pv 0) (nomark _)
   case' c44 => refine' pe_idxB (pv 4) ?c45
   case' c45 => exact (pa_cons pe_bl pa_nil)
   case' c36 => refine' pss_one ?c46
   case' c46 => exact (ps_ret pe_bl)
   case c37 => exact pss_nil
   case' c34 => refine' pss_cons ?c47 ?c48
   case' c47 => refine' ps_if ?c49 ?c50 pss_nil
   case' c49 => exact (pt_cmpR op_eq (pv 0) pe_int (nomark _))
   case' c50 => refine' pss_one ?c51
   case' c51 => refine' ps_ret ?c52
   case' c52 => exact (pe_cmpR op_eq (pe_at (K := K) rfl (pv 2) rfl) (pv 1) (nomark _))
   case' c48 => refine' pss_one ?c53
   case' c53 => exact (ps_ret pe_bl)
  case rest =>
   obtain ⟨w0, w14, A, ha, h⟩ := h
   obtain ⟨n, rfl⟩ : ∃ n : Nat, w = n := ⟨w.toNat, by omega⟩
   have l14 : n < 14 := by omega
   simp only [L2.start, List.map_cons, List.map_nil, List.length_cons, List.length_nil, Nat.reduceAdd, Nat.reduceSub, List.replicate_succ, List.replicate_zero, List.cons_append, List.nil_append, List.append_nil]
   refine ⟨fun σ H' => ∃ (e : Addr) (od : Option Addr), σ = [some (.int (n : Int)), some a, some (.ref e), none, none] ∧ Ext H H' ∧ H' e = some (excD e (cN C n) od) ∧ (n = 4 → ∃ dx, od = some dx ∧ H' dx = some (.xd [("at", a)])), ?_, ?_⟩
   ·o_head ⟨tRaiseN, tAt, tTryN, sp_raised⟩
    refine ⟨w0, w14, fun h4 dx hdx => ?_, fun h4 => ?_⟩
    ·have e4 : n = 4 := by omega
     subst e4
     refine ⟨C.NoSpot, rfl, A.eb 4 l14, A.le 4 l14, fun e he => ?_⟩
     o_head ⟨tRaiseN, tAt, tTryN⟩
     exact ⟨(Ext.upd hdx).then he, some dx, rfl, fun _ => ⟨dx, rfl, upd_f he upd_same⟩⟩
    ·refine ⟨cN C n, by rw [Int.toNat_natCast], A.eb n l14, A.le n l14, fun e he => ?_⟩
     o_head ⟨tRaiseN, tAt, tTryN⟩
     exact ⟨.upd he, none, rfl, fun z => (h4 (by omega)).elim⟩
   ·rintro σ H1 ⟨e, od, rfl, x1, he, h4⟩
    o_head ⟨tRaiseN, tAt, tTryN⟩
    refine rIsiX_t he (A.eb n l14) (A.ve n l14) ?_
    refine ⟨true, rfl, ?_⟩
    rw [if_neg (by decide)]
    refine ⟨e, n, od, rfl, l14, A, he, fun t H2 x2 h2 => ?_⟩
    dsimp only
    rw [h2, lstOf_l]
    refine ⟨rfl, _, h2, ?_⟩
    rw [count_one n l14]
    refine ⟨rfl, ?_⟩
    rw [if_neg (fun z => z rfl)]
    refine ⟨by rw [h2]; rfl, _, h2, mem_one n l14, ?_⟩
    rw [idx_one n l14]
    refine ⟨rfl, ?_⟩
    rw [if_neg (fun z => z rfl)]
    split
    ·rename_i z
     have e4 : n = 4 := by omega
     subst e4
     obtain ⟨dx, rfl, hdx⟩ := h4 rfl
     refine ⟨C.NoSpot, dx, x2 _ _ he, T.eb_NoSpot, T.at_NoSpot, T.hd_NoSpot, _, x2 _ _ hdx, a, rfl, ?_, ?_⟩
     ·rcases ha with rfl | ⟨i, rfl⟩ <;> rfl
     ·rw [decide_eq_true rfl]
      exact h _ (x1.trans x2)
    ·exact h _ (x1.trans x2)
end
end LW
namespace LW
open PySem L2 MA PyProof.Rows
section
variable {P : Program} {w : World} {K : PySem.W.Frag} {mg : Str → Option Value} {base : Heap}
theorem sc_law : FnScope ["_law_script", "_law_way", "_law_cell"] ["_law_script"] (defScope s_law) := ⟨rfl, rfl, rfl, by decide +kernel, rfl, by decide +kernel, by decide +kernel⟩
set_option maxHeartbeats 0 in
theorem ok_law {C : Cz} {f : Addr} {fd : FuncData} (F : Fun K "law" "law" s_law f fd) (T : Txt P K mg C) (F__law_right : FnB P w K mg base (CXE P w) 2 "_law_right" ["_law_way", "_law_at"] (sp_right K C)) : FnOk P w K mg base (CXE P w) 3 f fd ["_law_script"] (sp_law K) := by
 refine okN F (k := 2) sc_law (fun vs H Q E h => ?_) (fun cdv A outer s H vs Q E hr h => ?_)
 ·obtain ⟨a, ns, rfl, _⟩ := h
  rfl
 ·obtain ⟨a, ns, rfl, h⟩ := h
  refine' ⟨_, ?main, ?rest⟩
  case main =>
   refine' pss_cut ?c1 ?c2
   case' c1 => refine' ps_for ?c3 ?c4 ?c5 ?c6 ?c7
   case c3 => exact PassesOwn.never
   case c4 => exact rfl
   case' c5 => refine' pi_range1 rfl T.b_range ?c8
   case' c8 => exact (pa_cons pe_int pa_nil)
   case c6 => exact (pg_name (i := 1) sc_law.nd rfl (Or.inl rfl))
   case' c7 => refine' pss_one ?c9
   case' c9 => refine' ps_if ?c10 ?c11 ?c12
   case' c10 => refine' PW.pt ?c13
   case' c13 => refine' pw_or ?c14 ?c15
   case' c14 => refine' pt_not ?c16
   case' c16 => refine' pt_val ?c17
   case' c17 => refine' pe_fn F__law_right (hr.mono (by decide)) rfl passE0 ?c18
   case' c18 => refine' pa_cons (pv 1) ?c19
   case' c19 => exact (pa_cons (pv 1) pa_nil)
   case' c15 => refine' pw_or1 ?c20
   case' c20 => refine' pt_not ?c21
   case' c21 => refine' pt_val ?c22
   case' c22 => refine' pe_fn F__law_right (hr.mono (by decide)) rfl passE0 ?c23
   case' c23 => refine' pa_cons (pv 1) ?c24
   case' c24 => exact (pa_cons pe_non pa_nil)
   case' c11 => refine' pss_one ?c25
   case' c25 => exact (ps_ret pe_bl)
   case c12 => exact pss_nil
   case' c2 => refine' pss_cons ?c26 ?c27
   case' c26 => refine' ps_for ?c28 ?c29 ?c30 ?c31 ?c32
   case c28 => exact PassesOwn.never
   case c29 => exact rfl
   case' c30 => refine' pi_listK (K := K) rfl ?c33
   case' c33 => refine' PE.up ?c34
   case' c34 => refine' pe_slice (sl_listK (K := K) rfl) (pv 0) po_none ?c35
   case' c35 => exact (po_some pe_int)
   case c31 => exact (pg_name (i := 2) sc_law.nd rfl (Or.inl rfl))
   case' c32 => refine' pss_one ?c36
   case' c36 => refine' ps_if ?c37 ?c38 ?c39
   case' c37 => refine' pt_not ?c40
   case' c40 => refine' pt_val ?c41
   case' c41 => refine' pe_fn ?c42 ?c43 ?c44 ?c45 ?c46
   case c42 => exact F__law_right
   case c43 => exact (hr.mono (by decide))
   case c44 => exact rfl
   case c45 => exact passE0
   case' c46 => refine' pa_cons ?c47 ?c48
   case' c47 => exact (pe_op op_mod (pv 2) pe_int)
   case' c48 => refine' pa_cons ?c49 ?c50
   case' c49 => refine' pe_op op_sub ?c51 pe_int
   case' c51 => refine' pe_op op_mod ?c52 ?c53
   case' c52 => exact (pe_op op_fdivB (pv 2) pe_int)
   case' c53 => exact (pe_op op_powB pe_int pe_int)
   case c50 => exact pa_nil
   case' c38 => refine' pss_one ?c54
   case' c54 => exact (ps_ret pe_bl)
   case c39 => exact pss_nil
   case' c27 => refine' pss_one ?c55
   case' c55 => exact (ps_ret pe_bl)
  case rest =>
   obtain ⟨hS, hl, h⟩ := h
   have A : ClsAll K C := by
    refine ⟨fun n l => ?_, fun n l => ?_, fun n i l l2 => ?_, fun n l => ?_⟩
    ·rcases below14 l with rfl | rfl | rfl | rfl | rfl | rfl | rfl | rfl | rfl | rfl | rfl | rfl | rfl | rfl
     ·exact T.x_NoNumber.b
     ·exact T.x_NoLine.b
     ·exact T.x_NoBox.b
     ·exact T.x_TooMany.b
     ·exact T.eb_NoSpot
     ·exact T.x_NoName.b
     ·exact T.x_Taken.b
     ·exact T.x_Unknown.b
     ·exact T.x_NoDeed.b
     ·exact T.x_NoLot.b
     ·exact T.x_NoCount.b
     ·exact T.x_NoWeights.b
     ·exact T.x_NoText.b
     ·exact T.x_NoRow.b
    ·rcases below14 l with rfl | rfl | rfl | rfl | rfl | rfl | rfl | rfl | rfl | rfl | rfl | rfl | rfl | rfl
     ·exact T.i_NoNumber_ValueError
     ·exact T.i_NoLine_ValueError
     ·exact T.i_NoBox_ValueError
     ·exact T.i_TooMany_ValueError
     ·exact T.i_NoSpot_ValueError
     ·exact T.i_NoName_ValueError
     ·exact T.i_Taken_ValueError
     ·exact T.i_Unknown_ValueError
     ·exact T.i_NoDeed_ValueError
     ·exact T.i_NoLot_ValueError
     ·exact T.i_NoCount_ValueError
     ·exact T.i_NoWeights_ValueError
     ·exact T.i_NoText_ValueError
     ·exact T.i_NoRow_ValueError
    ·rcases below14 l with rfl | rfl | rfl | rfl | rfl | rfl | rfl | rfl | rfl | rfl | rfl | rfl | rfl | rfl
     ·rcases below14 l2 with rfl | rfl | rfl | rfl | rfl | rfl | rfl | rfl | rfl | rfl | rfl | rfl | rfl | rfl
      ·exact T.i_NoNumber_NoNumber
      ·exact T.i_NoNumber_NoLine
      ·exact T.i_NoNumber_NoBox
      ·exact T.i_NoNumber_TooMany
      ·exact T.i_NoNumber_NoSpot
      ·exact T.i_NoNumber_NoName
      ·exact T.i_NoNumber_Taken
      ·exact T.i_NoNumber_Unknown
      ·exact T.i_NoNumber_NoDeed
      ·exact T.i_NoNumber_NoLot
      ·exact T.i_NoNumber_NoCount
      ·exact T.i_NoNumber_NoWeights
      ·exact T.i_NoNumber_NoText
      ·exact T.i_NoNumber_NoRow
     ·rcases below14 l2 with rfl | rfl | rfl | rfl | rfl | rfl | rfl | rfl | rfl | rfl | rfl | rfl | rfl | rfl
      ·exact T.i_NoLine_NoNumber
      ·exact T.i_NoLine_NoLine
      ·exact T.i_NoLine_NoBox
      ·exact T.i_NoLine_TooMany
      ·exact T.i_NoLine_NoSpot
      ·exact T.i_NoLine_NoName
      ·exact T.i_NoLine_Taken
      ·exact T.i_NoLine_Unknown
      ·exact T.i_NoLine_NoDeed
      ·exact T.i_NoLine_NoLot
      ·exact T.i_NoLine_NoCount
      ·exact T.i_NoLine_NoWeights
      ·exact T.i_NoLine_NoText
      ·exact T.i_NoLine_NoRow
     ·rcases below14 l2 with rfl | rfl | rfl | rfl | rfl | rfl | rfl | rfl | rfl | rfl | rfl | rfl | rfl | rfl
      ·exact T.i_NoBox_NoNumber
      ·exact T.i_NoBox_NoLine
      ·exact T.i_NoBox_NoBox
      ·exact T.i_NoBox_TooMany
      ·exact T.i_NoBox_NoSpot
      ·exact T.i_NoBox_NoName
      ·exact T.i_NoBox_Taken
      ·exact T.i_NoBox_Unknown
      ·exact T.i_NoBox_NoDeed
      ·exact T.i_NoBox_NoLot
      ·exact T.i_NoBox_NoCount
      ·exact T.i_NoBox_NoWeights
      ·exact T.i_NoBox_NoText
      ·exact T.i_NoBox_NoRow
     ·rcases below14 l2 with rfl | rfl | rfl | rfl | rfl | rfl | rfl | rfl | rfl | rfl | rfl | rfl | rfl | rfl
      ·exact T.i_TooMany_NoNumber
      ·exact T.i_TooMany_NoLine
      ·exact T.i_TooMany_NoBox
      ·exact T.i_TooMany_TooMany
      ·exact T.i_TooMany_NoSpot
      ·exact T.i_TooMany_NoName
      ·exact T.i_TooMany_Taken
      ·exact T.i_TooMany_Unknown
      ·exact T.i_TooMany_NoDeed
      ·exact T.i_TooMany_NoLot
      ·exact T.i_TooMany_NoCount
      ·exact T.i_TooMany_NoWeights
      ·exact T.i_TooMany_NoText
      ·exact T.i_TooMany_NoRow
     ·rcases below14 l2 with rfl | rfl | rfl | rfl | rfl | rfl | rfl | rfl | rfl | rfl | rfl | rfl | rfl | rfl
      ·exact T.i_NoSpot_NoNumber
      ·exact T.i_NoSpot_NoLine
      ·exact T.i_NoSpot_NoBox
      ·exact T.i_NoSpot_TooMany
      ·exact T.i_NoSpot_NoSpot
      ·exact T.i_NoSpot_NoName
      ·exact T.i_NoSpot_Taken
      ·exact T.i_NoSpot_Unknown
      ·exact T.i_NoSpot_NoDeed
      ·exact T.i_NoSpot_NoLot
      ·exact T.i_NoSpot_NoCount
      ·exact T.i_NoSpot_NoWeights
      ·exact T.i_NoSpot_NoText
      ·exact T.i_NoSpot_NoRow
     ·rcases below14 l2 with rfl | rfl | rfl | rfl | rfl | rfl | rfl | rfl | rfl | rfl | rfl | rfl | rfl | rfl
      ·exact T.i_NoName_NoNumber
      ·exact T.i_NoName_NoLine
      ·exact T.i_NoName_NoBox
      ·exact T.i_NoName_TooMany
      ·exact T.i_NoName_NoSpot
      ·exact T.i_NoName_NoName
      ·exact T.i_NoName_Taken
      ·exact T.i_NoName_Unknown
      ·exact T.i_NoName_NoDeed
      ·exact T.i_NoName_NoLot
      ·exact T.i_NoName_NoCount
      ·exact T.i_NoName_NoWeights
      ·exact T.i_NoName_NoText
      ·exact T.i_NoName_NoRow
     ·rcases below14 l2 with rfl | rfl | rfl | rfl | rfl | rfl | rfl | rfl | rfl | rfl | rfl | rfl | rfl | rfl
      ·exact T.i_Taken_NoNumber
      ·exact T.i_Taken_NoLine
      ·exact T.i_Taken_NoBox
      ·exact T.i_Taken_TooMany
      ·exact T.i_Taken_NoSpot
      ·exact T.i_Taken_NoName
      ·exact T.i_Taken_Taken
      ·exact T.i_Taken_Unknown
      ·exact T.i_Taken_NoDeed
      ·exact T.i_Taken_NoLot
      ·exact T.i_Taken_NoCount
      ·exact T.i_Taken_NoWeights
      ·exact T.i_Taken_NoText
      ·exact T.i_Taken_NoRow
     ·rcases below14 l2 with rfl | rfl | rfl | rfl | rfl | rfl | rfl | rfl | rfl | rfl | rfl | rfl | rfl | rfl
      ·exact T.i_Unknown_NoNumber
      ·exact T.i_Unknown_NoLine
      ·exact T.i_Unknown_NoBox
      ·exact T.i_Unknown_TooMany
      ·exact T.i_Unknown_NoSpot
      ·exact T.i_Unknown_NoName
      ·exact T.i_Unknown_Taken
      ·exact T.i_Unknown_Unknown
      ·exact T.i_Unknown_NoDeed
      ·exact T.i_Unknown_NoLot
      ·exact T.i_Unknown_NoCount
      ·exact T.i_Unknown_NoWeights
      ·exact T.i_Unknown_NoText
      ·exact T.i_Unknown_NoRow
     ·rcases below14 l2 with rfl | rfl | rfl | rfl | rfl | rfl | rfl | rfl | rfl | rfl | rfl | rfl | rfl | rfl
      ·exact T.i_NoDeed_NoNumber
      ·exact T.i_NoDeed_NoLine
      ·exact T.i_NoDeed_NoBox
      ·exact T.i_NoDeed_TooMany
      ·exact T.i_NoDeed_NoSpot
      ·exact T.i_NoDeed_NoName
      ·exact T.i_NoDeed_Taken
      ·exact T.i_NoDeed_Unknown
      ·exact T.i_NoDeed_NoDeed
      ·exact T.i_NoDeed_NoLot
      ·exact T.i_NoDeed_NoCount
      ·exact T.i_NoDeed_NoWeights
      ·exact T.i_NoDeed_NoText
      ·exact T.i_NoDeed_NoRow
     ·rcases below14 l2 with rfl | rfl | rfl | rfl | rfl | rfl | rfl | rfl | rfl | rfl | rfl | rfl | rfl | rfl
      ·exact T.i_NoLot_NoNumber
      ·exact T.i_NoLot_NoLine
      ·exact T.i_NoLot_NoBox
      ·exact T.i_NoLot_TooMany
      ·exact T.i_NoLot_NoSpot
      ·exact T.i_NoLot_NoName
      ·exact T.i_NoLot_Taken
      ·exact T.i_NoLot_Unknown
      ·exact T.i_NoLot_NoDeed
      ·exact T.i_NoLot_NoLot
      ·exact T.i_NoLot_NoCount
      ·exact T.i_NoLot_NoWeights
      ·exact T.i_NoLot_NoText
      ·exact T.i_NoLot_NoRow
     ·rcases below14 l2 with rfl | rfl | rfl | rfl | rfl | rfl | rfl | rfl | rfl | rfl | rfl | rfl | rfl | rfl
      ·exact T.i_NoCount_NoNumber
      ·exact T.i_NoCount_NoLine
      ·exact T.i_NoCount_NoBox
      ·exact T.i_NoCount_TooMany
      ·exact T.i_NoCount_NoSpot
      ·exact T.i_NoCount_NoName
      ·exact T.i_NoCount_Taken
      ·exact T.i_NoCount_Unknown
      ·exact T.i_NoCount_NoDeed
      ·exact T.i_NoCount_NoLot
      ·exact T.i_NoCount_NoCount
      ·exact T.i_NoCount_NoWeights
      ·exact T.i_NoCount_NoText
      ·exact T.i_NoCount_NoRow
     ·rcases below14 l2 with rfl | rfl | rfl | rfl | rfl | rfl | rfl | rfl | rfl | rfl | rfl | rfl | rfl | rfl
      ·exact T.i_NoWeights_NoNumber
      ·exact T.i_NoWeights_NoLine
      ·exact T.i_NoWeights_NoBox
      ·exact T.i_NoWeights_TooMany
      ·exact T.i_NoWeights_NoSpot
      ·exact T.i_NoWeights_NoName
      ·exact T.i_NoWeights_Taken
      ·exact T.i_NoWeights_Unknown
      ·exact T.i_NoWeights_NoDeed
      ·exact T.i_NoWeights_NoLot
      ·exact T.i_NoWeights_NoCount
      ·exact T.i_NoWeights_NoWeights
      ·exact T.i_NoWeights_NoText
      ·exact T.i_NoWeights_NoRow
     ·rcases below14 l2 with rfl | rfl | rfl | rfl | rfl | rfl | rfl | rfl | rfl | rfl | rfl | rfl | rfl | rfl
      ·exact T.i_NoText_NoNumber
      ·exact T.i_NoText_NoLine
      ·exact T.i_NoText_NoBox
      ·exact T.i_NoText_TooMany
      ·exact T.i_NoText_NoSpot
      ·exact T.i_NoText_NoName
      ·exact T.i_NoText_Taken
      ·exact T.i_NoText_Unknown
      ·exact T.i_NoText_NoDeed
      ·exact T.i_NoText_NoLot
      ·exact T.i_NoText_NoCount
      ·exact T.i_NoText_NoWeights
      ·exact T.i_NoText_NoText
      ·exact T.i_NoText_NoRow
     ·rcases below14 l2 with rfl | rfl | rfl | rfl | rfl | rfl | rfl | rfl | rfl | rfl | rfl | rfl | rfl | rfl
      ·exact T.i_NoRow_NoNumber
      ·exact T.i_NoRow_NoLine
      ·exact T.i_NoRow_NoBox
      ·exact T.i_NoRow_TooMany
      ·exact T.i_NoRow_NoSpot
      ·exact T.i_NoRow_NoName
      ·exact T.i_NoRow_Taken
      ·exact T.i_NoRow_Unknown
      ·exact T.i_NoRow_NoDeed
      ·exact T.i_NoRow_NoLot
      ·exact T.i_NoRow_NoCount
      ·exact T.i_NoRow_NoWeights
      ·exact T.i_NoRow_NoText
      ·exact T.i_NoRow_NoRow
    ·rcases below14 l with rfl | rfl | rfl | rfl | rfl | rfl | rfl | rfl | rfl | rfl | rfl | rfl | rfl | rfl
     ·exact T.m_NoNumber_LandError
     ·exact T.m_NoLine_LandError
     ·exact T.m_NoBox_LandError
     ·exact T.m_TooMany_LandError
     ·exact T.m_NoSpot_LandError
     ·exact T.m_NoName_LandError
     ·exact T.m_Taken_LandError
     ·exact T.m_Unknown_LandError
     ·exact T.m_NoDeed_LandError
     ·exact T.m_NoLot_LandError
     ·exact T.m_NoCount_LandError
     ·exact T.m_NoWeights_LandError
     ·exact T.m_NoText_LandError
     ·exact T.m_NoRow_LandError
   simp only [L2.start, List.map_cons, List.map_nil, List.length_cons, List.length_nil, Nat.reduceAdd, Nat.reduceSub, List.replicate_succ, List.replicate_zero, List.cons_append, List.nil_append, List.append_nil]
   refine ⟨fun σ H' => ∃ o1 : Option V, σ = [some (.ref a), o1, none] ∧ Ext H H', ?_, ?_⟩
   ·refine tfor_range 14 (fun R hR => by o_head ⟨tRaiseN, tAt, tTryN⟩; exact hR) (by decide) (fun i σ H' => ∃ o1 : Option V, σ = [some (.ref a), o1, none] ∧ Ext H H') ⟨_, rfl, .refl _⟩ ?_ ?_
    ·rintro i σ H1 hi ⟨o1, rfl, x1⟩
     o_head ⟨tRaiseN, tAt, tTryN, sp_right⟩
     refine ⟨by omega, by omega, A, ⟨_, rfl⟩, fun H2 x2 => ?_⟩
     exact ⟨by omega, by omega, A, fun H3 x3 => (x1.trans x2).trans x3⟩
    ·rintro σ H1 ⟨o1, rfl, x1⟩
     exact ⟨_, rfl, x1⟩
   ·rintro σ H1 ⟨o1, rfl, x1⟩
    rw [tSeq]
    refine tfor_list_up (fun w H' => ∃ L : Addr, w = .ref L ∧ Ext H1 H' ∧ H' L = some (.lst ((ns.take 20).map V.int))) ?_ ?_
    ·o_head ⟨tRaiseN, tAt, tTryN⟩
     refine ⟨a, ns.map V.int, rfl, x1.sqL hS, ?_⟩
     intro p hp
     exact ⟨p, rfl, .upd hp, by
      have e1 := cut_to' (ns.map V.int) 20
      rw [← List.map_take] at e1
      rw [upd_same]
      exact congrArg (fun z => some (HO.lst z)) e1⟩
    ·rintro w H2 ⟨L, rfl, x2, eL⟩
     refine ⟨L, (ns.take 20).map V.int, rfl, fun k σ H' => ∃ o1 o2 : Option V, σ = [some (.ref a), o1, o2] ∧ Ext H2 H', ⟨_, _, rfl, .refl _⟩, ?_, ?_, ?_⟩
     ·rintro k σ H3 _ ⟨o1, o2, rfl, x3⟩
      exact SqL.of (x3 _ _ eL)
     ·rintro k w1 σ H3 hk ⟨o1, o2, rfl, x3⟩
      rw [List.getElem?_map] at hk
      obtain ⟨c, hc, rfl⟩ := Option.map_eq_some_iff.mp hk
      o_head ⟨tRaiseN, tAt, tTryN, sp_right⟩
      exact ⟨(Bd.of_le (n := 4) 14 (by decide) (by decide) (by decide)).mono (by decide), by omega, by omega, A, ⟨_, rfl⟩, fun H' x => x3.trans x⟩
     ·rintro σ H3 ⟨o1, o2, rfl, x3⟩
      o_head ⟨tRaiseN, tAt, tTryN⟩
      exact h _
end
end LW
namespace LW
open PySem L2 MA PyProof.Rows
theorem len_1 {us : List Value} (h : us.length = 1) : ∃ u0, us = [u0] := by
 obtain _ | ⟨u0, us⟩ := us
 ·cases h
 cases us with
 | nil => exact ⟨u0, rfl⟩
 | cons a r => simp at h
theorem len_2 {us : List Value} (h : us.length = 2) : ∃ u0 u1, us = [u0, u1] := by
 obtain _ | ⟨u0, us⟩ := us
 ·cases h
 obtain _ | ⟨u1, us⟩ := us
 ·cases h
 cases us with
 | nil => exact ⟨u0, u1, rfl⟩
 | cons a r => simp at h
set_option maxHeartbeats 0 in
theorem all_mk {l : PySem.W.OpenLaw} {w : World} {K : PySem.W.Frag} {h : Heap} {mg : Str → Option Value} {fa : Addr} (X : K.In h) (G : h.Ns mainGlobals mg) (hfa : mg "law" = some (.ref fa))
  {f__law_raised : Addr} {od__law_raised an__law_raised : Option Addr} {sl__law_raised : Array (Option Value)} {oc__law_raised kV__law_raised dc__law_raised pm__law_raised cd__law_raised ct__law_raised : Value} {f__law_truths : Addr} {od__law_truths an__law_truths : Option Addr} {sl__law_truths : Array (Option Value)} {oc__law_truths kV__law_truths dc__law_truths pm__law_truths cd__law_truths ct__law_truths : Value} {f__law_right : Addr} {od__law_right an__law_right : Option Addr} {sl__law_right : Array (Option Value)} {oc__law_right kV__law_right dc__law_right pm__law_right cd__law_right ct__law_right : Value} {f_law : Addr} {od_law an_law : Option Addr} {sl_law : Array (Option Value)} {oc_law kV_law dc_law pm_law cd_law ct_law : Value} {cl_LandError : Addr} {cl_NoNumber : Addr} {cl_NoLine : Addr} {cl_NoBox : Addr} {cl_TooMany : Addr} {cl_NoSpot : Addr} {cl_NoName : Addr} {cl_Taken : Addr} {cl_Unknown : Addr} {cl_NoDeed : Addr} {cl_NoLot : Addr} {cl_NoCount : Addr} {cl_NoWeights : Addr} {cl_NoText : Addr} {cl_NoRow : Addr} {cdt_NoNumber : ClassData} {cdt_NoLine : ClassData} {cdt_NoBox : ClassData} {cdt_TooMany : ClassData} {cdt_NoName : ClassData} {cdt_Taken : ClassData} {cdt_Unknown : ClassData} {cdt_NoDeed : ClassData} {cdt_NoLot : ClassData} {cdt_NoCount : ClassData} {cdt_NoWeights : ClassData} {cdt_NoText : ClassData} {cdt_NoRow : ClassData} {ynm yq yx yqual yfile : Str} {yn : Nat} {yN yD yfI ycc ycda : Addr} {ybs ysub : List Value} {ysn : List Str} {yab : Bool} {ycol : Option Bool} {ydd yod yan yccd ycdd : Option Addr} {yk0 yk1 yk2 yk3 yk5 : Option Value} {yosl yccs ycds : Array (Option Value)} {ykV ydoc ypm yct yccl ycdl : Value} {yvs : Array Value} {ytf : Tok} {ycdt : ClassData}
  (a__law_raised : PySem.W.nsIn K mainGlobals "_law_raised" = some (some (.ref f__law_raised)))
  (l__law_raised : K.lookup f__law_raised = some ⟨oc__law_raised, od__law_raised, .func (PySem.W.fnOf "_law_raised" "_law_raised" (defArgs s__law_raised) (defBody s__law_raised) (defScope s__law_raised) .none kV__law_raised dc__law_raised pm__law_raised an__law_raised cd__law_raised ct__law_raised), sl__law_raised⟩)
  (c__law_raised : PySem.W.codeIn K cd__law_raised "_law_raised" = true)
  (k__law_raised : PySem.W.keepIn K (.ref f__law_raised) = true)
  (a__law_truths : PySem.W.nsIn K mainGlobals "_law_truths" = some (some (.ref f__law_truths)))
  (l__law_truths : K.lookup f__law_truths = some ⟨oc__law_truths, od__law_truths, .func (PySem.W.fnOf "_law_truths" "_law_truths" (defArgs s__law_truths) (defBody s__law_truths) (defScope s__law_truths) .none kV__law_truths dc__law_truths pm__law_truths an__law_truths cd__law_truths ct__law_truths), sl__law_truths⟩)
  (c__law_truths : PySem.W.codeIn K cd__law_truths "_law_truths" = true)
  (k__law_truths : PySem.W.keepIn K (.ref f__law_truths) = true)
  (a__law_right : PySem.W.nsIn K mainGlobals "_law_right" = some (some (.ref f__law_right)))
  (l__law_right : K.lookup f__law_right = some ⟨oc__law_right, od__law_right, .func (PySem.W.fnOf "_law_right" "_law_right" (defArgs s__law_right) (defBody s__law_right) (defScope s__law_right) .none kV__law_right dc__law_right pm__law_right an__law_right cd__law_right ct__law_right), sl__law_right⟩)
  (c__law_right : PySem.W.codeIn K cd__law_right "_law_right" = true)
  (k__law_right : PySem.W.keepIn K (.ref f__law_right) = true)
  (a_law : PySem.W.nsIn K mainGlobals "law" = some (some (.ref f_law)))
  (l_law : K.lookup f_law = some ⟨oc_law, od_law, .func (PySem.W.fnOf "law" "law" (defArgs s_law) (defBody s_law) (defScope s_law) .none kV_law dc_law pm_law an_law cd_law ct_law), sl_law⟩)
  (c_law : PySem.W.codeIn K cd_law "law" = true)
  (k_law : PySem.W.keepIn K (.ref f_law) = true)
  (z_ValueError : PySem.W.nsIn K mainGlobals "ValueError" = some none)
  (z_isinstance : PySem.W.nsIn K mainGlobals "isinstance" = some none)
  (z_range : PySem.W.nsIn K mainGlobals "range" = some none)
  (z_super : PySem.W.nsIn K mainGlobals "super" = some none)
  (a_LandError : PySem.W.nsIn K mainGlobals "LandError" = some (some (.ref cl_LandError)))
  (a_NoNumber : PySem.W.nsIn K mainGlobals "NoNumber" = some (some (.ref cl_NoNumber)))
  (a_NoLine : PySem.W.nsIn K mainGlobals "NoLine" = some (some (.ref cl_NoLine)))
  (a_NoBox : PySem.W.nsIn K mainGlobals "NoBox" = some (some (.ref cl_NoBox)))
  (a_TooMany : PySem.W.nsIn K mainGlobals "TooMany" = some (some (.ref cl_TooMany)))
  (a_NoSpot : PySem.W.nsIn K mainGlobals "NoSpot" = some (some (.ref cl_NoSpot)))
  (a_NoName : PySem.W.nsIn K mainGlobals "NoName" = some (some (.ref cl_NoName)))
  (a_Taken : PySem.W.nsIn K mainGlobals "Taken" = some (some (.ref cl_Taken)))
  (a_Unknown : PySem.W.nsIn K mainGlobals "Unknown" = some (some (.ref cl_Unknown)))
  (a_NoDeed : PySem.W.nsIn K mainGlobals "NoDeed" = some (some (.ref cl_NoDeed)))
  (a_NoLot : PySem.W.nsIn K mainGlobals "NoLot" = some (some (.ref cl_NoLot)))
  (a_NoCount : PySem.W.nsIn K mainGlobals "NoCount" = some (some (.ref cl_NoCount)))
  (a_NoWeights : PySem.W.nsIn K mainGlobals "NoWeights" = some (some (.ref cl_NoWeights)))
  (a_NoText : PySem.W.nsIn K mainGlobals "NoText" = some (some (.ref cl_NoText)))
  (a_NoRow : PySem.W.nsIn K mainGlobals "NoRow" = some (some (.ref cl_NoRow)))
  (x1_NoNumber : PySem.W.excIn K cl_NoNumber [.type "ValueError", .type "Exception", .type "BaseException", .type "object"] "ValueError.__new__" = true)
  (x2_NoNumber : PySem.W.findIn K (.ref cl_NoNumber) "__getattribute__" = some (some (.builtin "BaseException.__getattribute__")))
  (x3_NoNumber : PySem.W.findIn K (.ref cl_NoNumber) "__getattr__" = some none)
  (x4_NoNumber : PySem.W.findIn K (.ref cl_NoNumber) "__class__" = some (some (.builtin "object.__class__")))
  (x5_NoNumber : PySem.W.specialIn K (.builtin "object.__class__") "__get__" = some (some (.builtin "getset_descriptor.__get__")))
  (x6_NoNumber : PySem.W.takesIn K (.builtin "object.__class__") = some true)
  (x7_NoNumber : PySem.W.clsIn K cl_NoNumber = some cdt_NoNumber)
  (x8_NoNumber : PySem.W.mroIn K cl_NoNumber (.type "BaseException") = some true)
  (x9_NoNumber : PySem.W.mroIn K cl_NoNumber (.type "object") = some true)
  (x1_NoLine : PySem.W.excIn K cl_NoLine [.type "ValueError", .type "Exception", .type "BaseException", .type "object"] "ValueError.__new__" = true)
  (x2_NoLine : PySem.W.findIn K (.ref cl_NoLine) "__getattribute__" = some (some (.builtin "BaseException.__getattribute__")))
  (x3_NoLine : PySem.W.findIn K (.ref cl_NoLine) "__getattr__" = some none)
  (x4_NoLine : PySem.W.findIn K (.ref cl_NoLine) "__class__" = some (some (.builtin "object.__class__")))
  (x5_NoLine : PySem.W.specialIn K (.builtin "object.__class__") "__get__" = some (some (.builtin "getset_descriptor.__get__")))
  (x6_NoLine : PySem.W.takesIn K (.builtin "object.__class__") = some true)
  (x7_NoLine : PySem.W.clsIn K cl_NoLine = some cdt_NoLine)
  (x8_NoLine : PySem.W.mroIn K cl_NoLine (.type "BaseException") = some true)
  (x9_NoLine : PySem.W.mroIn K cl_NoLine (.type "object") = some true)
  (x1_NoBox : PySem.W.excIn K cl_NoBox [.type "ValueError", .type "Exception", .type "BaseException", .type "object"] "ValueError.__new__" = true)
  (x2_NoBox : PySem.W.findIn K (.ref cl_NoBox) "__getattribute__" = some (some (.builtin "BaseException.__getattribute__")))
  (x3_NoBox : PySem.W.findIn K (.ref cl_NoBox) "__getattr__" = some none)
  (x4_NoBox : PySem.W.findIn K (.ref cl_NoBox) "__class__" = some (some (.builtin "object.__class__")))
  (x5_NoBox : PySem.W.specialIn K (.builtin "object.__class__") "__get__" = some (some (.builtin "getset_descriptor.__get__")))
  (x6_NoBox : PySem.W.takesIn K (.builtin "object.__class__") = some true)
  (x7_NoBox : PySem.W.clsIn K cl_NoBox = some cdt_NoBox)
  (x8_NoBox : PySem.W.mroIn K cl_NoBox (.type "BaseException") = some true)
  (x9_NoBox : PySem.W.mroIn K cl_NoBox (.type "object") = some true)
  (x1_TooMany : PySem.W.excIn K cl_TooMany [.type "ValueError", .type "Exception", .type "BaseException", .type "object"] "ValueError.__new__" = true)
  (x2_TooMany : PySem.W.findIn K (.ref cl_TooMany) "__getattribute__" = some (some (.builtin "BaseException.__getattribute__")))
  (x3_TooMany : PySem.W.findIn K (.ref cl_TooMany) "__getattr__" = some none)
  (x4_TooMany : PySem.W.findIn K (.ref cl_TooMany) "__class__" = some (some (.builtin "object.__class__")))
  (x5_TooMany : PySem.W.specialIn K (.builtin "object.__class__") "__get__" = some (some (.builtin "getset_descriptor.__get__")))
  (x6_TooMany : PySem.W.takesIn K (.builtin "object.__class__") = some true)
  (x7_TooMany : PySem.W.clsIn K cl_TooMany = some cdt_TooMany)
  (x8_TooMany : PySem.W.mroIn K cl_TooMany (.type "BaseException") = some true)
  (x9_TooMany : PySem.W.mroIn K cl_TooMany (.type "object") = some true)
  (x1_NoName : PySem.W.excIn K cl_NoName [.type "ValueError", .type "Exception", .type "BaseException", .type "object"] "ValueError.__new__" = true)
  (x2_NoName : PySem.W.findIn K (.ref cl_NoName) "__getattribute__" = some (some (.builtin "BaseException.__getattribute__")))
  (x3_NoName : PySem.W.findIn K (.ref cl_NoName) "__getattr__" = some none)
  (x4_NoName : PySem.W.findIn K (.ref cl_NoName) "__class__" = some (some (.builtin "object.__class__")))
  (x5_NoName : PySem.W.specialIn K (.builtin "object.__class__") "__get__" = some (some (.builtin "getset_descriptor.__get__")))
  (x6_NoName : PySem.W.takesIn K (.builtin "object.__class__") = some true)
  (x7_NoName : PySem.W.clsIn K cl_NoName = some cdt_NoName)
  (x8_NoName : PySem.W.mroIn K cl_NoName (.type "BaseException") = some true)
  (x9_NoName : PySem.W.mroIn K cl_NoName (.type "object") = some true)
  (x1_Taken : PySem.W.excIn K cl_Taken [.type "ValueError", .type "Exception", .type "BaseException", .type "object"] "ValueError.__new__" = true)
  (x2_Taken : PySem.W.findIn K (.ref cl_Taken) "__getattribute__" = some (some (.builtin "BaseException.__getattribute__")))
  (x3_Taken : PySem.W.findIn K (.ref cl_Taken) "__getattr__" = some none)
  (x4_Taken : PySem.W.findIn K (.ref cl_Taken) "__class__" = some (some (.builtin "object.__class__")))
  (x5_Taken : PySem.W.specialIn K (.builtin "object.__class__") "__get__" = some (some (.builtin "getset_descriptor.__get__")))
  (x6_Taken : PySem.W.takesIn K (.builtin "object.__class__") = some true)
  (x7_Taken : PySem.W.clsIn K cl_Taken = some cdt_Taken)
  (x8_Taken : PySem.W.mroIn K cl_Taken (.type "BaseException") = some true)
  (x9_Taken : PySem.W.mroIn K cl_Taken (.type "object") = some true)
  (x1_Unknown : PySem.W.excIn K cl_Unknown [.type "ValueError", .type "Exception", .type "BaseException", .type "object"] "ValueError.__new__" = true)
  (x2_Unknown : PySem.W.findIn K (.ref cl_Unknown) "__getattribute__" = some (some (.builtin "BaseException.__getattribute__")))
  (x3_Unknown : PySem.W.findIn K (.ref cl_Unknown) "__getattr__" = some none)
  (x4_Unknown : PySem.W.findIn K (.ref cl_Unknown) "__class__" = some (some (.builtin "object.__class__")))
  (x5_Unknown : PySem.W.specialIn K (.builtin "object.__class__") "__get__" = some (some (.builtin "getset_descriptor.__get__")))
  (x6_Unknown : PySem.W.takesIn K (.builtin "object.__class__") = some true)
  (x7_Unknown : PySem.W.clsIn K cl_Unknown = some cdt_Unknown)
  (x8_Unknown : PySem.W.mroIn K cl_Unknown (.type "BaseException") = some true)
  (x9_Unknown : PySem.W.mroIn K cl_Unknown (.type "object") = some true)
  (x1_NoDeed : PySem.W.excIn K cl_NoDeed [.type "ValueError", .type "Exception", .type "BaseException", .type "object"] "ValueError.__new__" = true)
  (x2_NoDeed : PySem.W.findIn K (.ref cl_NoDeed) "__getattribute__" = some (some (.builtin "BaseException.__getattribute__")))
  (x3_NoDeed : PySem.W.findIn K (.ref cl_NoDeed) "__getattr__" = some none)
  (x4_NoDeed : PySem.W.findIn K (.ref cl_NoDeed) "__class__" = some (some (.builtin "object.__class__")))
  (x5_NoDeed : PySem.W.specialIn K (.builtin "object.__class__") "__get__" = some (some (.builtin "getset_descriptor.__get__")))
  (x6_NoDeed : PySem.W.takesIn K (.builtin "object.__class__") = some true)
  (x7_NoDeed : PySem.W.clsIn K cl_NoDeed = some cdt_NoDeed)
  (x8_NoDeed : PySem.W.mroIn K cl_NoDeed (.type "BaseException") = some true)
  (x9_NoDeed : PySem.W.mroIn K cl_NoDeed (.type "object") = some true)
  (x1_NoLot : PySem.W.excIn K cl_NoLot [.type "ValueError", .type "Exception", .type "BaseException", .type "object"] "ValueError.__new__" = true)
  (x2_NoLot : PySem.W.findIn K (.ref cl_NoLot) "__getattribute__" = some (some (.builtin "BaseException.__getattribute__")))
  (x3_NoLot : PySem.W.findIn K (.ref cl_NoLot) "__getattr__" = some none)
  (x4_NoLot : PySem.W.findIn K (.ref cl_NoLot) "__class__" = some (some (.builtin "object.__class__")))
  (x5_NoLot : PySem.W.specialIn K (.builtin "object.__class__") "__get__" = some (some (.builtin "getset_descriptor.__get__")))
  (x6_NoLot : PySem.W.takesIn K (.builtin "object.__class__") = some true)
  (x7_NoLot : PySem.W.clsIn K cl_NoLot = some cdt_NoLot)
  (x8_NoLot : PySem.W.mroIn K cl_NoLot (.type "BaseException") = some true)
  (x9_NoLot : PySem.W.mroIn K cl_NoLot (.type "object") = some true)
  (x1_NoCount : PySem.W.excIn K cl_NoCount [.type "ValueError", .type "Exception", .type "BaseException", .type "object"] "ValueError.__new__" = true)
  (x2_NoCount : PySem.W.findIn K (.ref cl_NoCount) "__getattribute__" = some (some (.builtin "BaseException.__getattribute__")))
  (x3_NoCount : PySem.W.findIn K (.ref cl_NoCount) "__getattr__" = some none)
  (x4_NoCount : PySem.W.findIn K (.ref cl_NoCount) "__class__" = some (some (.builtin "object.__class__")))
  (x5_NoCount : PySem.W.specialIn K (.builtin "object.__class__") "__get__" = some (some (.builtin "getset_descriptor.__get__")))
  (x6_NoCount : PySem.W.takesIn K (.builtin "object.__class__") = some true)
  (x7_NoCount : PySem.W.clsIn K cl_NoCount = some cdt_NoCount)
  (x8_NoCount : PySem.W.mroIn K cl_NoCount (.type "BaseException") = some true)
  (x9_NoCount : PySem.W.mroIn K cl_NoCount (.type "object") = some true)
  (x1_NoWeights : PySem.W.excIn K cl_NoWeights [.type "ValueError", .type "Exception", .type "BaseException", .type "object"] "ValueError.__new__" = true)
  (x2_NoWeights : PySem.W.findIn K (.ref cl_NoWeights) "__getattribute__" = some (some (.builtin "BaseException.__getattribute__")))
  (x3_NoWeights : PySem.W.findIn K (.ref cl_NoWeights) "__getattr__" = some none)
  (x4_NoWeights : PySem.W.findIn K (.ref cl_NoWeights) "__class__" = some (some (.builtin "object.__class__")))
  (x5_NoWeights : PySem.W.specialIn K (.builtin "object.__class__") "__get__" = some (some (.builtin "getset_descriptor.__get__")))
  (x6_NoWeights : PySem.W.takesIn K (.builtin "object.__class__") = some true)
  (x7_NoWeights : PySem.W.clsIn K cl_NoWeights = some cdt_NoWeights)
  (x8_NoWeights : PySem.W.mroIn K cl_NoWeights (.type "BaseException") = some true)
  (x9_NoWeights : PySem.W.mroIn K cl_NoWeights (.type "object") = some true)
  (x1_NoText : PySem.W.excIn K cl_NoText [.type "ValueError", .type "Exception", .type "BaseException", .type "object"] "ValueError.__new__" = true)
  (x2_NoText : PySem.W.findIn K (.ref cl_NoText) "__getattribute__" = some (some (.builtin "BaseException.__getattribute__")))
  (x3_NoText : PySem.W.findIn K (.ref cl_NoText) "__getattr__" = some none)
  (x4_NoText : PySem.W.findIn K (.ref cl_NoText) "__class__" = some (some (.builtin "object.__class__")))
  (x5_NoText : PySem.W.specialIn K (.builtin "object.__class__") "__get__" = some (some (.builtin "getset_descriptor.__get__")))
  (x6_NoText : PySem.W.takesIn K (.builtin "object.__class__") = some true)
  (x7_NoText : PySem.W.clsIn K cl_NoText = some cdt_NoText)
  (x8_NoText : PySem.W.mroIn K cl_NoText (.type "BaseException") = some true)
  (x9_NoText : PySem.W.mroIn K cl_NoText (.type "object") = some true)
  (x1_NoRow : PySem.W.excIn K cl_NoRow [.type "ValueError", .type "Exception", .type "BaseException", .type "object"] "ValueError.__new__" = true)
  (x2_NoRow : PySem.W.findIn K (.ref cl_NoRow) "__getattribute__" = some (some (.builtin "BaseException.__getattribute__")))
  (x3_NoRow : PySem.W.findIn K (.ref cl_NoRow) "__getattr__" = some none)
  (x4_NoRow : PySem.W.findIn K (.ref cl_NoRow) "__class__" = some (some (.builtin "object.__class__")))
  (x5_NoRow : PySem.W.specialIn K (.builtin "object.__class__") "__get__" = some (some (.builtin "getset_descriptor.__get__")))
  (x6_NoRow : PySem.W.takesIn K (.builtin "object.__class__") = some true)
  (x7_NoRow : PySem.W.clsIn K cl_NoRow = some cdt_NoRow)
  (x8_NoRow : PySem.W.mroIn K cl_NoRow (.type "BaseException") = some true)
  (x9_NoRow : PySem.W.mroIn K cl_NoRow (.type "object") = some true)
  (y1_ : K.lookup cl_NoSpot = some (excClassObj ynm yq cl_NoSpot yN ybs (.ref yD :: veB) true ysn ysub yab ycol ydd yk0 yk1 yk2 yk3 yk5 "ValueError.__new__"))
  (y2_ : PySem.W.tailIn K veB (.ref yD :: veB) = true)
  (y3_ : PySem.W.nsOkIn K yN = true)
  (y4_ : PySem.W.nsIn K yN "__init__" = some (some (.ref yfI)))
  (y5_ : PySem.W.alongIn K "__init__" (.ref yD :: veB) = some (some veInit))
  (y6_ : K.lookup yfI = some ⟨.type "function", yod, .func (PySem.W.fnX "__init__" yqual (initParams ⟨14, 17, 14, 21⟩ ⟨14, 23, 14, 25⟩) (initBody yx yn ⟨15, 8, 15, 13⟩ ⟨15, 8, 15, 15⟩ ⟨15, 8, 15, 24⟩ ⟨15, 25, 15, 46⟩ ⟨15, 8, 15, 47⟩ ⟨15, 8, 15, 47⟩ ⟨16, 8, 16, 12⟩ ⟨16, 8, 16, 15⟩ ⟨16, 18, 16, 20⟩ ⟨16, 8, 16, 20⟩) initScope [("__class__", ycc)] .none ykV ydoc ypm yan (.ref ycda) yct), yosl⟩)
  (y7_ : PySem.W.codeIn K (.ref ycda) yqual = true)
  (y8_ : K.lookup ycc = some ⟨yccl, yccd, .cell (some (.ref cl_NoSpot)), yccs⟩)
  (y9_ : K.lookup ycda = some ⟨ycdl, ycdd, .fields yvs, ycds⟩)
  (y10_ : yvs[2]? = some (.str yfile ytf))
  (y11_ : (l.prog.main.file == yfile) = true)
  (y12_ : (l.prog.main.scope.names.lookup ("super" : Str)).isSome = false)
  (y14_ : PySem.W.nsIn K cStatics "thirdparty.any" = some none)
  (y15_ : PySem.W.mroIn K cl_NoSpot (.ref cl_NoSpot) = some true)
  (y16_ : PySem.W.mroIn K cl_NoSpot (.type "ValueError") = some true)
  (y17_ : PySem.W.mroIn K cl_NoSpot (.type "object") = some true)
  (y18_ : (PySem.W.findIn K (.ref cl_NoSpot) "__setattr__" = some (some (.builtin "object.__setattr__"))))
  (y19_ : (PySem.W.findIn K (.ref cl_NoSpot) "at" = some none))
  (y20_ : PySem.W.keepIn K (.ref cl_NoSpot) = true)
  (y21_ : (PySem.W.findIn K (.ref cl_NoSpot) "__getattribute__" = some (some (.builtin "BaseException.__getattribute__"))))
  (y22_ : (PySem.W.findIn K (.ref cl_NoSpot) "__getattr__" = some none))
  (y23_ : (PySem.W.findIn K (.ref cl_NoSpot) "__class__" = some (some (.builtin "object.__class__"))))
  (y24_ : PySem.W.specialIn K (.builtin "object.__class__") "__get__" = some (some (.builtin "getset_descriptor.__get__")))
  (y25_ : PySem.W.takesIn K (.builtin "object.__class__") = some true)
  (y26_ : PySem.W.clsIn K cl_NoSpot = some ycdt)
  (y27_ : PySem.W.mroIn K cl_NoSpot (.type "BaseException") = some true)
  (y28_ : PySem.W.hasDictIn K cl_NoSpot = true)
  (m_NoNumber_LandError : PySem.W.exmOne K (.ref cl_NoNumber) (.ref cl_LandError) = some true)
  (m_NoLine_LandError : PySem.W.exmOne K (.ref cl_NoLine) (.ref cl_LandError) = some true)
  (m_NoBox_LandError : PySem.W.exmOne K (.ref cl_NoBox) (.ref cl_LandError) = some true)
  (m_TooMany_LandError : PySem.W.exmOne K (.ref cl_TooMany) (.ref cl_LandError) = some true)
  (m_NoSpot_LandError : PySem.W.exmOne K (.ref cl_NoSpot) (.ref cl_LandError) = some true)
  (m_NoName_LandError : PySem.W.exmOne K (.ref cl_NoName) (.ref cl_LandError) = some true)
  (m_Taken_LandError : PySem.W.exmOne K (.ref cl_Taken) (.ref cl_LandError) = some true)
  (m_Unknown_LandError : PySem.W.exmOne K (.ref cl_Unknown) (.ref cl_LandError) = some true)
  (m_NoDeed_LandError : PySem.W.exmOne K (.ref cl_NoDeed) (.ref cl_LandError) = some true)
  (m_NoLot_LandError : PySem.W.exmOne K (.ref cl_NoLot) (.ref cl_LandError) = some true)
  (m_NoCount_LandError : PySem.W.exmOne K (.ref cl_NoCount) (.ref cl_LandError) = some true)
  (m_NoWeights_LandError : PySem.W.exmOne K (.ref cl_NoWeights) (.ref cl_LandError) = some true)
  (m_NoText_LandError : PySem.W.exmOne K (.ref cl_NoText) (.ref cl_LandError) = some true)
  (m_NoRow_LandError : PySem.W.exmOne K (.ref cl_NoRow) (.ref cl_LandError) = some true)
  (i_NoNumber_ValueError : PySem.W.kitOne K (.ref cl_NoNumber) (.type "ValueError") = some true)
  (i_NoLine_ValueError : PySem.W.kitOne K (.ref cl_NoLine) (.type "ValueError") = some true)
  (i_NoBox_ValueError : PySem.W.kitOne K (.ref cl_NoBox) (.type "ValueError") = some true)
  (i_TooMany_ValueError : PySem.W.kitOne K (.ref cl_TooMany) (.type "ValueError") = some true)
  (i_NoSpot_ValueError : PySem.W.kitOne K (.ref cl_NoSpot) (.type "ValueError") = some true)
  (i_NoName_ValueError : PySem.W.kitOne K (.ref cl_NoName) (.type "ValueError") = some true)
  (i_Taken_ValueError : PySem.W.kitOne K (.ref cl_Taken) (.type "ValueError") = some true)
  (i_Unknown_ValueError : PySem.W.kitOne K (.ref cl_Unknown) (.type "ValueError") = some true)
  (i_NoDeed_ValueError : PySem.W.kitOne K (.ref cl_NoDeed) (.type "ValueError") = some true)
  (i_NoLot_ValueError : PySem.W.kitOne K (.ref cl_NoLot) (.type "ValueError") = some true)
  (i_NoCount_ValueError : PySem.W.kitOne K (.ref cl_NoCount) (.type "ValueError") = some true)
  (i_NoWeights_ValueError : PySem.W.kitOne K (.ref cl_NoWeights) (.type "ValueError") = some true)
  (i_NoText_ValueError : PySem.W.kitOne K (.ref cl_NoText) (.type "ValueError") = some true)
  (i_NoRow_ValueError : PySem.W.kitOne K (.ref cl_NoRow) (.type "ValueError") = some true)
  (i_NoNumber_NoNumber : PySem.W.kitOne K (.ref cl_NoNumber) (.ref cl_NoNumber) = some true)
  (i_NoNumber_NoLine : PySem.W.kitOne K (.ref cl_NoNumber) (.ref cl_NoLine) = some false)
  (i_NoNumber_NoBox : PySem.W.kitOne K (.ref cl_NoNumber) (.ref cl_NoBox) = some false)
  (i_NoNumber_TooMany : PySem.W.kitOne K (.ref cl_NoNumber) (.ref cl_TooMany) = some false)
  (i_NoNumber_NoSpot : PySem.W.kitOne K (.ref cl_NoNumber) (.ref cl_NoSpot) = some false)
  (i_NoNumber_NoName : PySem.W.kitOne K (.ref cl_NoNumber) (.ref cl_NoName) = some false)
  (i_NoNumber_Taken : PySem.W.kitOne K (.ref cl_NoNumber) (.ref cl_Taken) = some false)
  (i_NoNumber_Unknown : PySem.W.kitOne K (.ref cl_NoNumber) (.ref cl_Unknown) = some false)
  (i_NoNumber_NoDeed : PySem.W.kitOne K (.ref cl_NoNumber) (.ref cl_NoDeed) = some false)
  (i_NoNumber_NoLot : PySem.W.kitOne K (.ref cl_NoNumber) (.ref cl_NoLot) = some false)
  (i_NoNumber_NoCount : PySem.W.kitOne K (.ref cl_NoNumber) (.ref cl_NoCount) = some false)
  (i_NoNumber_NoWeights : PySem.W.kitOne K (.ref cl_NoNumber) (.ref cl_NoWeights) = some false)
  (i_NoNumber_NoText : PySem.W.kitOne K (.ref cl_NoNumber) (.ref cl_NoText) = some false)
  (i_NoNumber_NoRow : PySem.W.kitOne K (.ref cl_NoNumber) (.ref cl_NoRow) = some false)
  (i_NoLine_NoNumber : PySem.W.kitOne K (.ref cl_NoLine) (.ref cl_NoNumber) = some false)
  (i_NoLine_NoLine : PySem.W.kitOne K (.ref cl_NoLine) (.ref cl_NoLine) = some true)
  (i_NoLine_NoBox : PySem.W.kitOne K (.ref cl_NoLine) (.ref cl_NoBox) = some false)
  (i_NoLine_TooMany : PySem.W.kitOne K (.ref cl_NoLine) (.ref cl_TooMany) = some false)
  (i_NoLine_NoSpot : PySem.W.kitOne K (.ref cl_NoLine) (.ref cl_NoSpot) = some false)
  (i_NoLine_NoName : PySem.W.kitOne K (.ref cl_NoLine) (.ref cl_NoName) = some false)
  (i_NoLine_Taken : PySem.W.kitOne K (.ref cl_NoLine) (.ref cl_Taken) = some false)
  (i_NoLine_Unknown : PySem.W.kitOne K (.ref cl_NoLine) (.ref cl_Unknown) = some false)
  (i_NoLine_NoDeed : PySem.W.kitOne K (.ref cl_NoLine) (.ref cl_NoDeed) = some false)
  (i_NoLine_NoLot : PySem.W.kitOne K (.ref cl_NoLine) (.ref cl_NoLot) = some false)
  (i_NoLine_NoCount : PySem.W.kitOne K (.ref cl_NoLine) (.ref cl_NoCount) = some false)
  (i_NoLine_NoWeights : PySem.W.kitOne K (.ref cl_NoLine) (.ref cl_NoWeights) = some false)
  (i_NoLine_NoText : PySem.W.kitOne K (.ref cl_NoLine) (.ref cl_NoText) = some false)
  (i_NoLine_NoRow : PySem.W.kitOne K (.ref cl_NoLine) (.ref cl_NoRow) = some false)
  (i_NoBox_NoNumber : PySem.W.kitOne K (.ref cl_NoBox) (.ref cl_NoNumber) = some false)
  (i_NoBox_NoLine : PySem.W.kitOne K (.ref cl_NoBox) (.ref cl_NoLine) = some false)
  (i_NoBox_NoBox : PySem.W.kitOne K (.ref cl_NoBox) (.ref cl_NoBox) = some true)
  (i_NoBox_TooMany : PySem.W.kitOne K (.ref cl_NoBox) (.ref cl_TooMany) = some false)
  (i_NoBox_NoSpot : PySem.W.kitOne K (.ref cl_NoBox) (.ref cl_NoSpot) = some false)
  (i_NoBox_NoName : PySem.W.kitOne K (.ref cl_NoBox) (.ref cl_NoName) = some false)
  (i_NoBox_Taken : PySem.W.kitOne K (.ref cl_NoBox) (.ref cl_Taken) = some false)
  (i_NoBox_Unknown : PySem.W.kitOne K (.ref cl_NoBox) (.ref cl_Unknown) = some false)
  (i_NoBox_NoDeed : PySem.W.kitOne K (.ref cl_NoBox) (.ref cl_NoDeed) = some false)
  (i_NoBox_NoLot : PySem.W.kitOne K (.ref cl_NoBox) (.ref cl_NoLot) = some false)
  (i_NoBox_NoCount : PySem.W.kitOne K (.ref cl_NoBox) (.ref cl_NoCount) = some false)
  (i_NoBox_NoWeights : PySem.W.kitOne K (.ref cl_NoBox) (.ref cl_NoWeights) = some false)
  (i_NoBox_NoText : PySem.W.kitOne K (.ref cl_NoBox) (.ref cl_NoText) = some false)
  (i_NoBox_NoRow : PySem.W.kitOne K (.ref cl_NoBox) (.ref cl_NoRow) = some false)
  (i_TooMany_NoNumber : PySem.W.kitOne K (.ref cl_TooMany) (.ref cl_NoNumber) = some false)
  (i_TooMany_NoLine : PySem.W.kitOne K (.ref cl_TooMany) (.ref cl_NoLine) = some false)
  (i_TooMany_NoBox : PySem.W.kitOne K (.ref cl_TooMany) (.ref cl_NoBox) = some false)
  (i_TooMany_TooMany : PySem.W.kitOne K (.ref cl_TooMany) (.ref cl_TooMany) = some true)
  (i_TooMany_NoSpot : PySem.W.kitOne K (.ref cl_TooMany) (.ref cl_NoSpot) = some false)
  (i_TooMany_NoName : PySem.W.kitOne K (.ref cl_TooMany) (.ref cl_NoName) = some false)
  (i_TooMany_Taken : PySem.W.kitOne K (.ref cl_TooMany) (.ref cl_Taken) = some false)
  (i_TooMany_Unknown : PySem.W.kitOne K (.ref cl_TooMany) (.ref cl_Unknown) = some false)
  (i_TooMany_NoDeed : PySem.W.kitOne K (.ref cl_TooMany) (.ref cl_NoDeed) = some false)
  (i_TooMany_NoLot : PySem.W.kitOne K (.ref cl_TooMany) (.ref cl_NoLot) = some false)
  (i_TooMany_NoCount : PySem.W.kitOne K (.ref cl_TooMany) (.ref cl_NoCount) = some false)
  (i_TooMany_NoWeights : PySem.W.kitOne K (.ref cl_TooMany) (.ref cl_NoWeights) = some false)
  (i_TooMany_NoText : PySem.W.kitOne K (.ref cl_TooMany) (.ref cl_NoText) = some false)
  (i_TooMany_NoRow : PySem.W.kitOne K (.ref cl_TooMany) (.ref cl_NoRow) = some false)
  (i_NoSpot_NoNumber : PySem.W.kitOne K (.ref cl_NoSpot) (.ref cl_NoNumber) = some false)
  (i_NoSpot_NoLine : PySem.W.kitOne K (.ref cl_NoSpot) (.ref cl_NoLine) = some false)
  (i_NoSpot_NoBox : PySem.W.kitOne K (.ref cl_NoSpot) (.ref cl_NoBox) = some false)
  (i_NoSpot_TooMany : PySem.W.kitOne K (.ref cl_NoSpot) (.ref cl_TooMany) = some false)
  (i_NoSpot_NoSpot : PySem.W.kitOne K (.ref cl_NoSpot) (.ref cl_NoSpot) = some true)
  (i_NoSpot_NoName : PySem.W.kitOne K (.ref cl_NoSpot) (.ref cl_NoName) = some false)
  (i_NoSpot_Taken : PySem.W.kitOne K (.ref cl_NoSpot) (.ref cl_Taken) = some false)
  (i_NoSpot_Unknown : PySem.W.kitOne K (.ref cl_NoSpot) (.ref cl_Unknown) = some false)
  (i_NoSpot_NoDeed : PySem.W.kitOne K (.ref cl_NoSpot) (.ref cl_NoDeed) = some false)
  (i_NoSpot_NoLot : PySem.W.kitOne K (.ref cl_NoSpot) (.ref cl_NoLot) = some false)
  (i_NoSpot_NoCount : PySem.W.kitOne K (.ref cl_NoSpot) (.ref cl_NoCount) = some false)
  (i_NoSpot_NoWeights : PySem.W.kitOne K (.ref cl_NoSpot) (.ref cl_NoWeights) = some false)
  (i_NoSpot_NoText : PySem.W.kitOne K (.ref cl_NoSpot) (.ref cl_NoText) = some false)
  (i_NoSpot_NoRow : PySem.W.kitOne K (.ref cl_NoSpot) (.ref cl_NoRow) = some false)
  (i_NoName_NoNumber : PySem.W.kitOne K (.ref cl_NoName) (.ref cl_NoNumber) = some false)
  (i_NoName_NoLine : PySem.W.kitOne K (.ref cl_NoName) (.ref cl_NoLine) = some false)
  (i_NoName_NoBox : PySem.W.kitOne K (.ref cl_NoName) (.ref cl_NoBox) = some false)
  (i_NoName_TooMany : PySem.W.kitOne K (.ref cl_NoName) (.ref cl_TooMany) = some false)
  (i_NoName_NoSpot : PySem.W.kitOne K (.ref cl_NoName) (.ref cl_NoSpot) = some false)
  (i_NoName_NoName : PySem.W.kitOne K (.ref cl_NoName) (.ref cl_NoName) = some true)
  (i_NoName_Taken : PySem.W.kitOne K (.ref cl_NoName) (.ref cl_Taken) = some false)
  (i_NoName_Unknown : PySem.W.kitOne K (.ref cl_NoName) (.ref cl_Unknown) = some false)
  (i_NoName_NoDeed : PySem.W.kitOne K (.ref cl_NoName) (.ref cl_NoDeed) = some false)
  (i_NoName_NoLot : PySem.W.kitOne K (.ref cl_NoName) (.ref cl_NoLot) = some false)
  (i_NoName_NoCount : PySem.W.kitOne K (.ref cl_NoName) (.ref cl_NoCount) = some false)
  (i_NoName_NoWeights : PySem.W.kitOne K (.ref cl_NoName) (.ref cl_NoWeights) = some false)
  (i_NoName_NoText : PySem.W.kitOne K (.ref cl_NoName) (.ref cl_NoText) = some false)
  (i_NoName_NoRow : PySem.W.kitOne K (.ref cl_NoName) (.ref cl_NoRow) = some false)
  (i_Taken_NoNumber : PySem.W.kitOne K (.ref cl_Taken) (.ref cl_NoNumber) = some false)
  (i_Taken_NoLine : PySem.W.kitOne K (.ref cl_Taken) (.ref cl_NoLine) = some false)
  (i_Taken_NoBox : PySem.W.kitOne K (.ref cl_Taken) (.ref cl_NoBox) = some false)
  (i_Taken_TooMany : PySem.W.kitOne K (.ref cl_Taken) (.ref cl_TooMany) = some false)
  (i_Taken_NoSpot : PySem.W.kitOne K (.ref cl_Taken) (.ref cl_NoSpot) = some false)
  (i_Taken_NoName : PySem.W.kitOne K (.ref cl_Taken) (.ref cl_NoName) = some false)
  (i_Taken_Taken : PySem.W.kitOne K (.ref cl_Taken) (.ref cl_Taken) = some true)
  (i_Taken_Unknown : PySem.W.kitOne K (.ref cl_Taken) (.ref cl_Unknown) = some false)
  (i_Taken_NoDeed : PySem.W.kitOne K (.ref cl_Taken) (.ref cl_NoDeed) = some false)
  (i_Taken_NoLot : PySem.W.kitOne K (.ref cl_Taken) (.ref cl_NoLot) = some false)
  (i_Taken_NoCount : PySem.W.kitOne K (.ref cl_Taken) (.ref cl_NoCount) = some false)
  (i_Taken_NoWeights : PySem.W.kitOne K (.ref cl_Taken) (.ref cl_NoWeights) = some false)
  (i_Taken_NoText : PySem.W.kitOne K (.ref cl_Taken) (.ref cl_NoText) = some false)
  (i_Taken_NoRow : PySem.W.kitOne K (.ref cl_Taken) (.ref cl_NoRow) = some false)
  (i_Unknown_NoNumber : PySem.W.kitOne K (.ref cl_Unknown) (.ref cl_NoNumber) = some false)
  (i_Unknown_NoLine : PySem.W.kitOne K (.ref cl_Unknown) (.ref cl_NoLine) = some false)
  (i_Unknown_NoBox : PySem.W.kitOne K (.ref cl_Unknown) (.ref cl_NoBox) = some false)
  (i_Unknown_TooMany : PySem.W.kitOne K (.ref cl_Unknown) (.ref cl_TooMany) = some false)
  (i_Unknown_NoSpot : PySem.W.kitOne K (.ref cl_Unknown) (.ref cl_NoSpot) = some false)
  (i_Unknown_NoName : PySem.W.kitOne K (.ref cl_Unknown) (.ref cl_NoName) = some false)
  (i_Unknown_Taken : PySem.W.kitOne K (.ref cl_Unknown) (.ref cl_Taken) = some false)
  (i_Unknown_Unknown : PySem.W.kitOne K (.ref cl_Unknown) (.ref cl_Unknown) = some true)
  (i_Unknown_NoDeed : PySem.W.kitOne K (.ref cl_Unknown) (.ref cl_NoDeed) = some false)
  (i_Unknown_NoLot : PySem.W.kitOne K (.ref cl_Unknown) (.ref cl_NoLot) = some false)
  (i_Unknown_NoCount : PySem.W.kitOne K (.ref cl_Unknown) (.ref cl_NoCount) = some false)
  (i_Unknown_NoWeights : PySem.W.kitOne K (.ref cl_Unknown) (.ref cl_NoWeights) = some false)
  (i_Unknown_NoText : PySem.W.kitOne K (.ref cl_Unknown) (.ref cl_NoText) = some false)
  (i_Unknown_NoRow : PySem.W.kitOne K (.ref cl_Unknown) (.ref cl_NoRow) = some false)
  (i_NoDeed_NoNumber : PySem.W.kitOne K (.ref cl_NoDeed) (.ref cl_NoNumber) = some false)
  (i_NoDeed_NoLine : PySem.W.kitOne K (.ref cl_NoDeed) (.ref cl_NoLine) = some false)
  (i_NoDeed_NoBox : PySem.W.kitOne K (.ref cl_NoDeed) (.ref cl_NoBox) = some false)
  (i_NoDeed_TooMany : PySem.W.kitOne K (.ref cl_NoDeed) (.ref cl_TooMany) = some false)
  (i_NoDeed_NoSpot : PySem.W.kitOne K (.ref cl_NoDeed) (.ref cl_NoSpot) = some false)
  (i_NoDeed_NoName : PySem.W.kitOne K (.ref cl_NoDeed) (.ref cl_NoName) = some false)
  (i_NoDeed_Taken : PySem.W.kitOne K (.ref cl_NoDeed) (.ref cl_Taken) = some false)
  (i_NoDeed_Unknown : PySem.W.kitOne K (.ref cl_NoDeed) (.ref cl_Unknown) = some false)
  (i_NoDeed_NoDeed : PySem.W.kitOne K (.ref cl_NoDeed) (.ref cl_NoDeed) = some true)
  (i_NoDeed_NoLot : PySem.W.kitOne K (.ref cl_NoDeed) (.ref cl_NoLot) = some false)
  (i_NoDeed_NoCount : PySem.W.kitOne K (.ref cl_NoDeed) (.ref cl_NoCount) = some false)
  (i_NoDeed_NoWeights : PySem.W.kitOne K (.ref cl_NoDeed) (.ref cl_NoWeights) = some false)
  (i_NoDeed_NoText : PySem.W.kitOne K (.ref cl_NoDeed) (.ref cl_NoText) = some false)
  (i_NoDeed_NoRow : PySem.W.kitOne K (.ref cl_NoDeed) (.ref cl_NoRow) = some false)
  (i_NoLot_NoNumber : PySem.W.kitOne K (.ref cl_NoLot) (.ref cl_NoNumber) = some false)
  (i_NoLot_NoLine : PySem.W.kitOne K (.ref cl_NoLot) (.ref cl_NoLine) = some false)
  (i_NoLot_NoBox : PySem.W.kitOne K (.ref cl_NoLot) (.ref cl_NoBox) = some false)
  (i_NoLot_TooMany : PySem.W.kitOne K (.ref cl_NoLot) (.ref cl_TooMany) = some false)
  (i_NoLot_NoSpot : PySem.W.kitOne K (.ref cl_NoLot) (.ref cl_NoSpot) = some false)
  (i_NoLot_NoName : PySem.W.kitOne K (.ref cl_NoLot) (.ref cl_NoName) = some false)
  (i_NoLot_Taken : PySem.W.kitOne K (.ref cl_NoLot) (.ref cl_Taken) = some false)
  (i_NoLot_Unknown : PySem.W.kitOne K (.ref cl_NoLot) (.ref cl_Unknown) = some false)
  (i_NoLot_NoDeed : PySem.W.kitOne K (.ref cl_NoLot) (.ref cl_NoDeed) = some false)
  (i_NoLot_NoLot : PySem.W.kitOne K (.ref cl_NoLot) (.ref cl_NoLot) = some true)
  (i_NoLot_NoCount : PySem.W.kitOne K (.ref cl_NoLot) (.ref cl_NoCount) = some false)
  (i_NoLot_NoWeights : PySem.W.kitOne K (.ref cl_NoLot) (.ref cl_NoWeights) = some false)
  (i_NoLot_NoText : PySem.W.kitOne K (.ref cl_NoLot) (.ref cl_NoText) = some false)
  (i_NoLot_NoRow : PySem.W.kitOne K (.ref cl_NoLot) (.ref cl_NoRow) = some false)
  (i_NoCount_NoNumber : PySem.W.kitOne K (.ref cl_NoCount) (.ref cl_NoNumber) = some false)
  (i_NoCount_NoLine : PySem.W.kitOne K (.ref cl_NoCount) (.ref cl_NoLine) = some false)
  (i_NoCount_NoBox : PySem.W.kitOne K (.ref cl_NoCount) (.ref cl_NoBox) = some false)
  (i_NoCount_TooMany : PySem.W.kitOne K (.ref cl_NoCount) (.ref cl_TooMany) = some false)
  (i_NoCount_NoSpot : PySem.W.kitOne K (.ref cl_NoCount) (.ref cl_NoSpot) = some false)
  (i_NoCount_NoName : PySem.W.kitOne K (.ref cl_NoCount) (.ref cl_NoName) = some false)
  (i_NoCount_Taken : PySem.W.kitOne K (.ref cl_NoCount) (.ref cl_Taken) = some false)
  (i_NoCount_Unknown : PySem.W.kitOne K (.ref cl_NoCount) (.ref cl_Unknown) = some false)
  (i_NoCount_NoDeed : PySem.W.kitOne K (.ref cl_NoCount) (.ref cl_NoDeed) = some false)
  (i_NoCount_NoLot : PySem.W.kitOne K (.ref cl_NoCount) (.ref cl_NoLot) = some false)
  (i_NoCount_NoCount : PySem.W.kitOne K (.ref cl_NoCount) (.ref cl_NoCount) = some true)
  (i_NoCount_NoWeights : PySem.W.kitOne K (.ref cl_NoCount) (.ref cl_NoWeights) = some false)
  (i_NoCount_NoText : PySem.W.kitOne K (.ref cl_NoCount) (.ref cl_NoText) = some false)
  (i_NoCount_NoRow : PySem.W.kitOne K (.ref cl_NoCount) (.ref cl_NoRow) = some false)
  (i_NoWeights_NoNumber : PySem.W.kitOne K (.ref cl_NoWeights) (.ref cl_NoNumber) = some false)
  (i_NoWeights_NoLine : PySem.W.kitOne K (.ref cl_NoWeights) (.ref cl_NoLine) = some false)
  (i_NoWeights_NoBox : PySem.W.kitOne K (.ref cl_NoWeights) (.ref cl_NoBox) = some false)
  (i_NoWeights_TooMany : PySem.W.kitOne K (.ref cl_NoWeights) (.ref cl_TooMany) = some false)
  (i_NoWeights_NoSpot : PySem.W.kitOne K (.ref cl_NoWeights) (.ref cl_NoSpot) = some false)
  (i_NoWeights_NoName : PySem.W.kitOne K (.ref cl_NoWeights) (.ref cl_NoName) = some false)
  (i_NoWeights_Taken : PySem.W.kitOne K (.ref cl_NoWeights) (.ref cl_Taken) = some false)
  (i_NoWeights_Unknown : PySem.W.kitOne K (.ref cl_NoWeights) (.ref cl_Unknown) = some false)
  (i_NoWeights_NoDeed : PySem.W.kitOne K (.ref cl_NoWeights) (.ref cl_NoDeed) = some false)
  (i_NoWeights_NoLot : PySem.W.kitOne K (.ref cl_NoWeights) (.ref cl_NoLot) = some false)
  (i_NoWeights_NoCount : PySem.W.kitOne K (.ref cl_NoWeights) (.ref cl_NoCount) = some false)
  (i_NoWeights_NoWeights : PySem.W.kitOne K (.ref cl_NoWeights) (.ref cl_NoWeights) = some true)
  (i_NoWeights_NoText : PySem.W.kitOne K (.ref cl_NoWeights) (.ref cl_NoText) = some false)
  (i_NoWeights_NoRow : PySem.W.kitOne K (.ref cl_NoWeights) (.ref cl_NoRow) = some false)
  (i_NoText_NoNumber : PySem.W.kitOne K (.ref cl_NoText) (.ref cl_NoNumber) = some false)
  (i_NoText_NoLine : PySem.W.kitOne K (.ref cl_NoText) (.ref cl_NoLine) = some false)
  (i_NoText_NoBox : PySem.W.kitOne K (.ref cl_NoText) (.ref cl_NoBox) = some false)
  (i_NoText_TooMany : PySem.W.kitOne K (.ref cl_NoText) (.ref cl_TooMany) = some false)
  (i_NoText_NoSpot : PySem.W.kitOne K (.ref cl_NoText) (.ref cl_NoSpot) = some false)
  (i_NoText_NoName : PySem.W.kitOne K (.ref cl_NoText) (.ref cl_NoName) = some false)
  (i_NoText_Taken : PySem.W.kitOne K (.ref cl_NoText) (.ref cl_Taken) = some false)
  (i_NoText_Unknown : PySem.W.kitOne K (.ref cl_NoText) (.ref cl_Unknown) = some false)
  (i_NoText_NoDeed : PySem.W.kitOne K (.ref cl_NoText) (.ref cl_NoDeed) = some false)
  (i_NoText_NoLot : PySem.W.kitOne K (.ref cl_NoText) (.ref cl_NoLot) = some false)
  (i_NoText_NoCount : PySem.W.kitOne K (.ref cl_NoText) (.ref cl_NoCount) = some false)
  (i_NoText_NoWeights : PySem.W.kitOne K (.ref cl_NoText) (.ref cl_NoWeights) = some false)
  (i_NoText_NoText : PySem.W.kitOne K (.ref cl_NoText) (.ref cl_NoText) = some true)
  (i_NoText_NoRow : PySem.W.kitOne K (.ref cl_NoText) (.ref cl_NoRow) = some false)
  (i_NoRow_NoNumber : PySem.W.kitOne K (.ref cl_NoRow) (.ref cl_NoNumber) = some false)
  (i_NoRow_NoLine : PySem.W.kitOne K (.ref cl_NoRow) (.ref cl_NoLine) = some false)
  (i_NoRow_NoBox : PySem.W.kitOne K (.ref cl_NoRow) (.ref cl_NoBox) = some false)
  (i_NoRow_TooMany : PySem.W.kitOne K (.ref cl_NoRow) (.ref cl_TooMany) = some false)
  (i_NoRow_NoSpot : PySem.W.kitOne K (.ref cl_NoRow) (.ref cl_NoSpot) = some false)
  (i_NoRow_NoName : PySem.W.kitOne K (.ref cl_NoRow) (.ref cl_NoName) = some false)
  (i_NoRow_Taken : PySem.W.kitOne K (.ref cl_NoRow) (.ref cl_Taken) = some false)
  (i_NoRow_Unknown : PySem.W.kitOne K (.ref cl_NoRow) (.ref cl_Unknown) = some false)
  (i_NoRow_NoDeed : PySem.W.kitOne K (.ref cl_NoRow) (.ref cl_NoDeed) = some false)
  (i_NoRow_NoLot : PySem.W.kitOne K (.ref cl_NoRow) (.ref cl_NoLot) = some false)
  (i_NoRow_NoCount : PySem.W.kitOne K (.ref cl_NoRow) (.ref cl_NoCount) = some false)
  (i_NoRow_NoWeights : PySem.W.kitOne K (.ref cl_NoRow) (.ref cl_NoWeights) = some false)
  (i_NoRow_NoText : PySem.W.kitOne K (.ref cl_NoRow) (.ref cl_NoText) = some false)
  (i_NoRow_NoRow : PySem.W.kitOne K (.ref cl_NoRow) (.ref cl_NoRow) = some true) :
  ∃ fd : FuncData, (∀ (s : Shared) (v : Value), BindsTo s fd ⟨[v], []⟩ [("_law_script", v)]) ∧ ∀ base : Heap, K.In base → base.Ns mainGlobals mg → FnOk l.prog w K mg base (CXE l.prog w) 3 fa fd ["_law_script"] (sp_law K) := by
 have e := hfa.symm.trans (PySem.W.mg_of X G a_law)
 cases e
 have T : Txt l.prog K mg ⟨cl_LandError, cl_NoNumber, cl_NoLine, cl_NoBox, cl_TooMany, cl_NoSpot, cl_NoName, cl_Taken, cl_Unknown, cl_NoDeed, cl_NoLot, cl_NoCount, cl_NoWeights, cl_NoText, cl_NoRow⟩ := ⟨PySem.W.mg_none_of X G z_ValueError, PySem.W.mg_none_of X G z_isinstance, PySem.W.mg_none_of X G z_range, PySem.W.mg_none_of X G z_super, ⟨_, ⟨_, _, _, _, _, _, _, _, _, _, _, _, _, _, _, y1_, y2_, y3_, y4_, y5_⟩, ⟨_, ⟨14, 17, 14, 21⟩, ⟨14, 23, 14, 25⟩, _, _, ⟨15, 8, 15, 13⟩, ⟨15, 8, 15, 15⟩, ⟨15, 8, 15, 24⟩, ⟨15, 25, 15, 46⟩, ⟨15, 8, 15, 47⟩, ⟨15, 8, 15, 47⟩, ⟨16, 8, 16, 12⟩, ⟨16, 8, 16, 15⟩, ⟨16, 18, 16, 20⟩, ⟨16, 8, 16, 20⟩, _, _, _, _, _, _, _, _, _, _, _, _, _, _, _, _, _, _, y6_, y7_, y8_, y9_, y10_, y11_, y12_, rfl⟩, y14_, y15_, y16_, y17_, y18_, y19_⟩, y20_, ⟨y21_, y22_, y23_, y24_, y25_, by rw [y26_]; rfl, y27_, y17_⟩, y19_, y28_, PySem.W.mg_of X G a_LandError, PySem.W.mg_of X G a_NoNumber, PySem.W.mg_of X G a_NoLine, PySem.W.mg_of X G a_NoBox, PySem.W.mg_of X G a_TooMany, PySem.W.mg_of X G a_NoSpot, PySem.W.mg_of X G a_NoName, PySem.W.mg_of X G a_Taken, PySem.W.mg_of X G a_Unknown, PySem.W.mg_of X G a_NoDeed, PySem.W.mg_of X G a_NoLot, PySem.W.mg_of X G a_NoCount, PySem.W.mg_of X G a_NoWeights, PySem.W.mg_of X G a_NoText, PySem.W.mg_of X G a_NoRow, ⟨x1_NoNumber, x2_NoNumber, x3_NoNumber, x4_NoNumber, x5_NoNumber, x6_NoNumber, (by rw [x7_NoNumber]; rfl), x8_NoNumber, x9_NoNumber⟩, ⟨x1_NoLine, x2_NoLine, x3_NoLine, x4_NoLine, x5_NoLine, x6_NoLine, (by rw [x7_NoLine]; rfl), x8_NoLine, x9_NoLine⟩, ⟨x1_NoBox, x2_NoBox, x3_NoBox, x4_NoBox, x5_NoBox, x6_NoBox, (by rw [x7_NoBox]; rfl), x8_NoBox, x9_NoBox⟩, ⟨x1_TooMany, x2_TooMany, x3_TooMany, x4_TooMany, x5_TooMany, x6_TooMany, (by rw [x7_TooMany]; rfl), x8_TooMany, x9_TooMany⟩, ⟨x1_NoName, x2_NoName, x3_NoName, x4_NoName, x5_NoName, x6_NoName, (by rw [x7_NoName]; rfl), x8_NoName, x9_NoName⟩, ⟨x1_Taken, x2_Taken, x3_Taken, x4_Taken, x5_Taken, x6_Taken, (by rw [x7_Taken]; rfl), x8_Taken, x9_Taken⟩, ⟨x1_Unknown, x2_Unknown, x3_Unknown, x4_Unknown, x5_Unknown, x6_Unknown, (by rw [x7_Unknown]; rfl), x8_Unknown, x9_Unknown⟩, ⟨x1_NoDeed, x2_NoDeed, x3_NoDeed, x4_NoDeed, x5_NoDeed, x6_NoDeed, (by rw [x7_NoDeed]; rfl), x8_NoDeed, x9_NoDeed⟩, ⟨x1_NoLot, x2_NoLot, x3_NoLot, x4_NoLot, x5_NoLot, x6_NoLot, (by rw [x7_NoLot]; rfl), x8_NoLot, x9_NoLot⟩, ⟨x1_NoCount, x2_NoCount, x3_NoCount, x4_NoCount, x5_NoCount, x6_NoCount, (by rw [x7_NoCount]; rfl), x8_NoCount, x9_NoCount⟩, ⟨x1_NoWeights, x2_NoWeights, x3_NoWeights, x4_NoWeights, x5_NoWeights, x6_NoWeights, (by rw [x7_NoWeights]; rfl), x8_NoWeights, x9_NoWeights⟩, ⟨x1_NoText, x2_NoText, x3_NoText, x4_NoText, x5_NoText, x6_NoText, (by rw [x7_NoText]; rfl), x8_NoText, x9_NoText⟩, ⟨x1_NoRow, x2_NoRow, x3_NoRow, x4_NoRow, x5_NoRow, x6_NoRow, (by rw [x7_NoRow]; rfl), x8_NoRow, x9_NoRow⟩, m_NoNumber_LandError, m_NoLine_LandError, m_NoBox_LandError, m_TooMany_LandError, m_NoSpot_LandError, m_NoName_LandError, m_Taken_LandError, m_Unknown_LandError, m_NoDeed_LandError, m_NoLot_LandError, m_NoCount_LandError, m_NoWeights_LandError, m_NoText_LandError, m_NoRow_LandError, i_NoNumber_ValueError, i_NoLine_ValueError, i_NoBox_ValueError, i_TooMany_ValueError, i_NoSpot_ValueError, i_NoName_ValueError, i_Taken_ValueError, i_Unknown_ValueError, i_NoDeed_ValueError, i_NoLot_ValueError, i_NoCount_ValueError, i_NoWeights_ValueError, i_NoText_ValueError, i_NoRow_ValueError, i_NoNumber_NoNumber, i_NoNumber_NoLine, i_NoNumber_NoBox, i_NoNumber_TooMany, i_NoNumber_NoSpot, i_NoNumber_NoName, i_NoNumber_Taken, i_NoNumber_Unknown, i_NoNumber_NoDeed, i_NoNumber_NoLot, i_NoNumber_NoCount, i_NoNumber_NoWeights, i_NoNumber_NoText, i_NoNumber_NoRow, i_NoLine_NoNumber, i_NoLine_NoLine, i_NoLine_NoBox, i_NoLine_TooMany, i_NoLine_NoSpot, i_NoLine_NoName, i_NoLine_Taken, i_NoLine_Unknown, i_NoLine_NoDeed, i_NoLine_NoLot, i_NoLine_NoCount, i_NoLine_NoWeights, i_NoLine_NoText, i_NoLine_NoRow, i_NoBox_NoNumber, i_NoBox_NoLine, i_NoBox_NoBox, i_NoBox_TooMany, i_NoBox_NoSpot, i_NoBox_NoName, i_NoBox_Taken, i_NoBox_Unknown, i_NoBox_NoDeed, i_NoBox_NoLot, i_NoBox_NoCount, i_NoBox_NoWeights, i_NoBox_NoText, i_NoBox_NoRow, i_TooMany_NoNumber, i_TooMany_NoLine, i_TooMany_NoBox, i_TooMany_TooMany, i_TooMany_NoSpot, i_TooMany_NoName, i_TooMany_Taken, i_TooMany_Unknown, i_TooMany_NoDeed, i_TooMany_NoLot, i_TooMany_NoCount, i_TooMany_NoWeights, i_TooMany_NoText, i_TooMany_NoRow, i_NoSpot_NoNumber, i_NoSpot_NoLine, i_NoSpot_NoBox, i_NoSpot_TooMany, i_NoSpot_NoSpot, i_NoSpot_NoName, i_NoSpot_Taken, i_NoSpot_Unknown, i_NoSpot_NoDeed, i_NoSpot_NoLot, i_NoSpot_NoCount, i_NoSpot_NoWeights, i_NoSpot_NoText, i_NoSpot_NoRow, i_NoName_NoNumber, i_NoName_NoLine, i_NoName_NoBox, i_NoName_TooMany, i_NoName_NoSpot, i_NoName_NoName, i_NoName_Taken, i_NoName_Unknown, i_NoName_NoDeed, i_NoName_NoLot, i_NoName_NoCount, i_NoName_NoWeights, i_NoName_NoText, i_NoName_NoRow, i_Taken_NoNumber, i_Taken_NoLine, i_Taken_NoBox, i_Taken_TooMany, i_Taken_NoSpot, i_Taken_NoName, i_Taken_Taken, i_Taken_Unknown, i_Taken_NoDeed, i_Taken_NoLot, i_Taken_NoCount, i_Taken_NoWeights, i_Taken_NoText, i_Taken_NoRow, i_Unknown_NoNumber, i_Unknown_NoLine, i_Unknown_NoBox, i_Unknown_TooMany, i_Unknown_NoSpot, i_Unknown_NoName, i_Unknown_Taken, i_Unknown_Unknown, i_Unknown_NoDeed, i_Unknown_NoLot, i_Unknown_NoCount, i_Unknown_NoWeights, i_Unknown_NoText, i_Unknown_NoRow, i_NoDeed_NoNumber, i_NoDeed_NoLine, i_NoDeed_NoBox, i_NoDeed_TooMany, i_NoDeed_NoSpot, i_NoDeed_NoName, i_NoDeed_Taken, i_NoDeed_Unknown, i_NoDeed_NoDeed, i_NoDeed_NoLot, i_NoDeed_NoCount, i_NoDeed_NoWeights, i_NoDeed_NoText, i_NoDeed_NoRow, i_NoLot_NoNumber, i_NoLot_NoLine, i_NoLot_NoBox, i_NoLot_TooMany, i_NoLot_NoSpot, i_NoLot_NoName, i_NoLot_Taken, i_NoLot_Unknown, i_NoLot_NoDeed, i_NoLot_NoLot, i_NoLot_NoCount, i_NoLot_NoWeights, i_NoLot_NoText, i_NoLot_NoRow, i_NoCount_NoNumber, i_NoCount_NoLine, i_NoCount_NoBox, i_NoCount_TooMany, i_NoCount_NoSpot, i_NoCount_NoName, i_NoCount_Taken, i_NoCount_Unknown, i_NoCount_NoDeed, i_NoCount_NoLot, i_NoCount_NoCount, i_NoCount_NoWeights, i_NoCount_NoText, i_NoCount_NoRow, i_NoWeights_NoNumber, i_NoWeights_NoLine, i_NoWeights_NoBox, i_NoWeights_TooMany, i_NoWeights_NoSpot, i_NoWeights_NoName, i_NoWeights_Taken, i_NoWeights_Unknown, i_NoWeights_NoDeed, i_NoWeights_NoLot, i_NoWeights_NoCount, i_NoWeights_NoWeights, i_NoWeights_NoText, i_NoWeights_NoRow, i_NoText_NoNumber, i_NoText_NoLine, i_NoText_NoBox, i_NoText_TooMany, i_NoText_NoSpot, i_NoText_NoName, i_NoText_Taken, i_NoText_Unknown, i_NoText_NoDeed, i_NoText_NoLot, i_NoText_NoCount, i_NoText_NoWeights, i_NoText_NoText, i_NoText_NoRow, i_NoRow_NoNumber, i_NoRow_NoLine, i_NoRow_NoBox, i_NoRow_TooMany, i_NoRow_NoSpot, i_NoRow_NoName, i_NoRow_Taken, i_NoRow_Unknown, i_NoRow_NoDeed, i_NoRow_NoLot, i_NoRow_NoCount, i_NoRow_NoWeights, i_NoRow_NoText, i_NoRow_NoRow⟩
 have U__law_raised := fun_mk (st := s__law_raised) l__law_raised c__law_raised k__law_raised
 have B__law_raised := U__law_raised.binds (ps := ["_law_way", "_law_at"]) fun _ _ _ _ _ _ us hl => by obtain ⟨u0, u1, rfl⟩ := len_2 hl; rfl
 have U__law_truths := fun_mk (st := s__law_truths) l__law_truths c__law_truths k__law_truths
 have B__law_truths := U__law_truths.binds (ps := ["_law_e"]) fun _ _ _ _ _ _ us hl => by obtain ⟨u0, rfl⟩ := len_1 hl; rfl
 have U__law_right := fun_mk (st := s__law_right) l__law_right c__law_right k__law_right
 have B__law_right := U__law_right.binds (ps := ["_law_way", "_law_at"]) fun _ _ _ _ _ _ us hl => by obtain ⟨u0, u1, rfl⟩ := len_2 hl; rfl
 have U_law := fun_mk (st := s_law) l_law c_law k_law
 refine ⟨PySem.W.fnOf "law" "law" (defArgs s_law) (defBody s_law) (defScope s_law) .none kV_law dc_law pm_law an_law cd_law ct_law, fun s v => .of_eq rfl, fun base _ _ => ?_⟩
 have F__law_raised : FnB l.prog w K mg base (CXE l.prog w) 1 "_law_raised" ["_law_way", "_law_at"] (sp_raised ⟨cl_LandError, cl_NoNumber, cl_NoLine, cl_NoBox, cl_TooMany, cl_NoSpot, cl_NoName, cl_Taken, cl_Unknown, cl_NoDeed, cl_NoLot, cl_NoCount, cl_NoWeights, cl_NoText, cl_NoRow⟩) := .of (ok__law_raised U__law_raised T ) (PySem.W.mg_of X G a__law_raised) k__law_raised B__law_raised
 have F__law_truths : FnB l.prog w K mg base (CXE l.prog w) 1 "_law_truths" ["_law_e"] (sp_truths K ⟨cl_LandError, cl_NoNumber, cl_NoLine, cl_NoBox, cl_TooMany, cl_NoSpot, cl_NoName, cl_Taken, cl_Unknown, cl_NoDeed, cl_NoLot, cl_NoCount, cl_NoWeights, cl_NoText, cl_NoRow⟩) := .of (ok__law_truths U__law_truths T ) (PySem.W.mg_of X G a__law_truths) k__law_truths B__law_truths
 have F__law_right : FnB l.prog w K mg base (CXE l.prog w) 2 "_law_right" ["_law_way", "_law_at"] (sp_right K ⟨cl_LandError, cl_NoNumber, cl_NoLine, cl_NoBox, cl_TooMany, cl_NoSpot, cl_NoName, cl_Taken, cl_Unknown, cl_NoDeed, cl_NoLot, cl_NoCount, cl_NoWeights, cl_NoText, cl_NoRow⟩) := .of (ok__law_right U__law_right T F__law_truths F__law_raised) (PySem.W.mg_of X G a__law_right) k__law_right B__law_right
 exact ok_law U_law T F__law_right
theorem walk {l : PySem.W.OpenLaw} {q : Program} {loose : List Str} {XP : (Str → Option Value) → Heap → Prop} {YP : World → Heap → Prop} {d : DefRec} {K : Params → PySem.W.Frag} (hn : l.most = some 63) (hdf : d.params.defaults = [])
  (hY : ∀ (w : World) (h : Heap), YP w h → (K w.params).In h)
  (F : ∀ (w : World) (mg : Str → Option Value) (fa : Addr) (h : Heap), (K w.params).In h → h.Ns mainGlobals mg → mg d.name = some (.ref fa) →
   ∃ fd : FuncData, (∀ (s : Shared) (u : Value), BindsTo s fd ⟨[u], []⟩ [("_law_script", u)]) ∧ ∀ base : Heap, (K w.params).In base → base.Ns mainGlobals mg → FnOk l.prog w (K w.params) mg base (CXE l.prog w) 3 fa fd ["_law_script"] (sp_law (K w.params))) :
  PySem.W.WalkO q loose XP YP l.row.toRowW d [] (fun f vs => PySem.call f vs) :=
 L2.walk_of (n := 63) (k := 3) (x := "_law_script") (CX := fun w => (CXE l.prog w)) (sp := fun w => sp_law (K w.params)) hn (by decide) hdf ⟨rfl, by decide, by decide⟩ hY F (fun _ _ a ns hl _ hS => ⟨a, ns, rfl, hS, hl, fun _ => rfl⟩) fun _ _ _ _ _ z => (by obtain ⟨_, _, _, _, _, _, _, _, _, _, _, _, _, _, _, hE⟩ := z; exact hE)
end LW
end
namespace LW
open PySem
noncomputable def isN : Stmt → Bool
 | .Assign [.Name x _] _ _ => x == ("__name__" : Str)
 | _ => false
noncomputable def qv : Program := { PySem.Challenge.pw_nearlands_k04_classes_of_refusals with main := { PySem.Challenge.pw_nearlands_k04_classes_of_refusals.main with body := PySem.Challenge.pw_nearlands_k04_classes_of_refusals.main.body.filter fun s => !isN s } }
end LW
open PySem PySem.W PyProof.Rows
local macro_rules | `(tactic| o_head $H) => `(tactic| (refine holds_open (q := LW.qv) (loose := []) (Xt := fun s => xlAt LW.qv [] s && recOk (RowW.records PySem.Challenge.rw_nearlands_k04_classes_of_refusals.row.toRowW) s) (XP := XL LW.qv []) (Yf := Hook.obs $H) (Ya := Hook.val $H) (YP := Hook.says $H) (N := 30000) ?hl (Hook.of $H) (Hook.keeps $H) (fun s e => xl_of s (Bool.and_eq_true_iff.mp e).1) XL.keeps (by rfl) (by rfl) (by rfl) (fun s e => recFacts_of (Bool.and_eq_true_iff.mp e).2) (by rfl) (by first | assumption | decide +kernel) (by decide +kernel) ⟨rfl, rfl, rfl, rfl, rfl, by decide +kernel⟩ ?hw ?hc))
set_option maxRecDepth 100000 in
set_option maxHeartbeats 0 in
theorem PySem.Challenge.cw_nearlands_k04_classes_of_refusals_holds : PySem.Challenge.rw_nearlands_k04_classes_of_refusals.Holds := by
 w_on; o_law; k_head
 case hl =>
  intro w
  unfold openEnds fencedOpening topFrom
  rw [Fast.te10274390034422433532, Fast.te14082659384304107361, Fast.te14289696077712309145, Fast.te4187177175401517315, Fast.te1435165496053646825, Fast.te14364793385576792824]
  kernel_rfl
 case hw => w_witness2
 k_fill
 refine LW.walk (l := PySem.Challenge.rw_nearlands_k04_classes_of_refusals) rfl rfl (fun w h Y => PySem.W.kIn_of Y) ?F
 case F =>
  intro w mg fa h KX G hmg
  refine' LW.all_mk KX G hmg ?a__law_raised ?l__law_raised ?c__law_raised ?k__law_raised ?a__law_truths ?l__law_truths ?c__law_truths ?k__law_truths ?a__law_right ?l__law_right ?c__law_right ?k__law_right ?a_law ?l_law ?c_law ?k_law ?z_ValueError ?z_isinstance ?z_range ?z_super ?a_LandError ?a_NoNumber ?a_NoLine ?a_NoBox ?a_TooMany ?a_NoSpot ?a_NoName ?a_Taken ?a_Unknown ?a_NoDeed ?a_NoLot ?a_NoCount ?a_NoWeights ?a_NoText ?a_NoRow ?x1_NoNumber ?x2_NoNumber ?x3_NoNumber ?x4_NoNumber ?x5_NoNumber ?x6_NoNumber ?x7_NoNumber ?x8_NoNumber ?x9_NoNumber ?x1_NoLine ?x2_NoLine ?x3_NoLine ?x4_NoLine ?x5_NoLine ?x6_NoLine ?x7_NoLine ?x8_NoLine ?x9_NoLine ?x1_NoBox ?x2_NoBox ?x3_NoBox ?x4_NoBox ?x5_NoBox ?x6_NoBox ?x7_NoBox ?x8_NoBox ?x9_NoBox ?x1_TooMany ?x2_TooMany ?x3_TooMany ?x4_TooMany ?x5_TooMany ?x6_TooMany ?x7_TooMany ?x8_TooMany ?x9_TooMany ?x1_NoName ?x2_NoName ?x3_NoName ?x4_NoName ?x5_NoName ?x6_NoName ?x7_NoName ?x8_NoName ?x9_NoName ?x1_Taken ?x2_Taken ?x3_Taken ?x4_Taken ?x5_Taken ?x6_Taken ?x7_Taken ?x8_Taken ?x9_Taken ?x1_Unknown ?x2_Unknown ?x3_Unknown ?x4_Unknown ?x5_Unknown ?x6_Unknown ?x7_Unknown ?x8_Unknown ?x9_Unknown ?x1_NoDeed ?x2_NoDeed ?x3_NoDeed ?x4_NoDeed ?x5_NoDeed ?x6_NoDeed ?x7_NoDeed ?x8_NoDeed ?x9_NoDeed ?x1_NoLot ?x2_NoLot ?x3_NoLot ?x4_NoLot ?x5_NoLot ?x6_NoLot ?x7_NoLot ?x8_NoLot ?x9_NoLot ?x1_NoCount ?x2_NoCount ?x3_NoCount ?x4_NoCount ?x5_NoCount ?x6_NoCount ?x7_NoCount ?x8_NoCount ?x9_NoCount ?x1_NoWeights ?x2_NoWeights ?x3_NoWeights ?x4_NoWeights ?x5_NoWeights ?x6_NoWeights ?x7_NoWeights ?x8_NoWeights ?x9_NoWeights ?x1_NoText ?x2_NoText ?x3_NoText ?x4_NoText ?x5_NoText ?x6_NoText ?x7_NoText ?x8_NoText ?x9_NoText ?x1_NoRow ?x2_NoRow ?x3_NoRow ?x4_NoRow ?x5_NoRow ?x6_NoRow ?x7_NoRow ?x8_NoRow ?x9_NoRow ?y1_ ?y2_ ?y3_ ?y4_ ?y5_ ?y6_ ?y7_ ?y8_ ?y9_ ?y10_ ?y11_ ?y12_ ?y14_ ?y15_ ?y16_ ?y17_ ?y18_ ?y19_ ?y20_ ?y21_ ?y22_ ?y23_ ?y24_ ?y25_ ?y26_ ?y27_ ?y28_ ?m_NoNumber_LandError ?m_NoLine_LandError ?m_NoBox_LandError ?m_TooMany_LandError ?m_NoSpot_LandError ?m_NoName_LandError ?m_Taken_LandError ?m_Unknown_LandError ?m_NoDeed_LandError ?m_NoLot_LandError ?m_NoCount_LandError ?m_NoWeights_LandError ?m_NoText_LandError ?m_NoRow_LandError ?i_NoNumber_ValueError ?i_NoLine_ValueError ?i_NoBox_ValueError ?i_TooMany_ValueError ?i_NoSpot_ValueError ?i_NoName_ValueError ?i_Taken_ValueError ?i_Unknown_ValueError ?i_NoDeed_ValueError ?i_NoLot_ValueError ?i_NoCount_ValueError ?i_NoWeights_ValueError ?i_NoText_ValueError ?i_NoRow_ValueError ?i_NoNumber_NoNumber ?i_NoNumber_NoLine ?i_NoNumber_NoBox ?i_NoNumber_TooMany ?i_NoNumber_NoSpot ?i_NoNumber_NoName ?i_NoNumber_Taken ?i_NoNumber_Unknown ?i_NoNumber_NoDeed ?i_NoNumber_NoLot ?i_NoNumber_NoCount ?i_NoNumber_NoWeights ?i_NoNumber_NoText ?i_NoNumber_NoRow ?i_NoLine_NoNumber ?i_NoLine_NoLine ?i_NoLine_NoBox ?i_NoLine_TooMany ?i_NoLine_NoSpot ?i_NoLine_NoName ?i_NoLine_Taken ?i_NoLine_Unknown ?i_NoLine_NoDeed ?i_NoLine_NoLot ?i_NoLine_NoCount ?i_NoLine_NoWeights ?i_NoLine_NoText ?i_NoLine_NoRow ?i_NoBox_NoNumber ?i_NoBox_NoLine ?i_NoBox_NoBox ?i_NoBox_TooMany ?i_NoBox_NoSpot ?i_NoBox_NoName ?i_NoBox_Taken ?i_NoBox_Unknown ?i_NoBox_NoDeed ?i_NoBox_NoLot ?i_NoBox_NoCount ?i_NoBox_NoWeights ?i_NoBox_NoText ?i_NoBox_NoRow ?i_TooMany_NoNumber ?i_TooMany_NoLine ?i_TooMany_NoBox ?i_TooMany_TooMany ?i_TooMany_NoSpot ?i_TooMany_NoName ?i_TooMany_Taken ?i_TooMany_Unknown ?i_TooMany_NoDeed ?i_TooMany_NoLot ?i_TooMany_NoCount ?i_TooMany_NoWeights ?i_TooMany_NoText ?i_TooMany_NoRow ?i_NoSpot_NoNumber ?i_NoSpot_NoLine ?i_NoSpot_NoBox ?i_NoSpot_TooMany ?i_NoSpot_NoSpot ?i_NoSpot_NoName ?i_NoSpot_Taken ?i_NoSpot_Unknown ?i_NoSpot_NoDeed ?i_NoSpot_NoLot ?i_NoSpot_NoCount ?i_NoSpot_NoWeights ?i_NoSpot_NoText ?i_NoSpot_NoRow ?i_NoName_NoNumber ?i_NoName_NoLine ?i_NoName_NoBox ?i_NoName_TooMany ?i_NoName_NoSpot ?i_NoName_NoName ?i_NoName_Taken ?i_NoName_Unknown ?i_NoName_NoDeed ?i_NoName_NoLot ?i_NoName_NoCount ?i_NoName_NoWeights ?i_NoName_NoText ?i_NoName_NoRow ?i_Taken_NoNumber ?i_Taken_NoLine ?i_Taken_NoBox ?i_Taken_TooMany ?i_Taken_NoSpot ?i_Taken_NoName ?i_Taken_Taken ?i_Taken_Unknown ?i_Taken_NoDeed ?i_Taken_NoLot ?i_Taken_NoCount ?i_Taken_NoWeights ?i_Taken_NoText ?i_Taken_NoRow ?i_Unknown_NoNumber ?i_Unknown_NoLine ?i_Unknown_NoBox ?i_Unknown_TooMany ?i_Unknown_NoSpot ?i_Unknown_NoName ?i_Unknown_Taken ?i_Unknown_Unknown ?i_Unknown_NoDeed ?i_Unknown_NoLot ?i_Unknown_NoCount ?i_Unknown_NoWeights ?i_Unknown_NoText ?i_Unknown_NoRow ?i_NoDeed_NoNumber ?i_NoDeed_NoLine ?i_NoDeed_NoBox ?i_NoDeed_TooMany ?i_NoDeed_NoSpot ?i_NoDeed_NoName ?i_NoDeed_Taken ?i_NoDeed_Unknown ?i_NoDeed_NoDeed ?i_NoDeed_NoLot ?i_NoDeed_NoCount ?i_NoDeed_NoWeights ?i_NoDeed_NoText ?i_NoDeed_NoRow ?i_NoLot_NoNumber ?i_NoLot_NoLine ?i_NoLot_NoBox ?i_NoLot_TooMany ?i_NoLot_NoSpot ?i_NoLot_NoName ?i_NoLot_Taken ?i_NoLot_Unknown ?i_NoLot_NoDeed ?i_NoLot_NoLot ?i_NoLot_NoCount ?i_NoLot_NoWeights ?i_NoLot_NoText ?i_NoLot_NoRow ?i_NoCount_NoNumber ?i_NoCount_NoLine ?i_NoCount_NoBox ?i_NoCount_TooMany ?i_NoCount_NoSpot ?i_NoCount_NoName ?i_NoCount_Taken ?i_NoCount_Unknown ?i_NoCount_NoDeed ?i_NoCount_NoLot ?i_NoCount_NoCount ?i_NoCount_NoWeights ?i_NoCount_NoText ?i_NoCount_NoRow ?i_NoWeights_NoNumber ?i_NoWeights_NoLine ?i_NoWeights_NoBox ?i_NoWeights_TooMany ?i_NoWeights_NoSpot ?i_NoWeights_NoName ?i_NoWeights_Taken ?i_NoWeights_Unknown ?i_NoWeights_NoDeed ?i_NoWeights_NoLot ?i_NoWeights_NoCount ?i_NoWeights_NoWeights ?i_NoWeights_NoText ?i_NoWeights_NoRow ?i_NoText_NoNumber ?i_NoText_NoLine ?i_NoText_NoBox ?i_NoText_TooMany ?i_NoText_NoSpot ?i_NoText_NoName ?i_NoText_Taken ?i_NoText_Unknown ?i_NoText_NoDeed ?i_NoText_NoLot ?i_NoText_NoCount ?i_NoText_NoWeights ?i_NoText_NoText ?i_NoText_NoRow ?i_NoRow_NoNumber ?i_NoRow_NoLine ?i_NoRow_NoBox ?i_NoRow_TooMany ?i_NoRow_NoSpot ?i_NoRow_NoName ?i_NoRow_Taken ?i_NoRow_Unknown ?i_NoRow_NoDeed ?i_NoRow_NoLot ?i_NoRow_NoCount ?i_NoRow_NoWeights ?i_NoRow_NoText ?i_NoRow_NoRow
  (case a__law_raised => k_is)
  (case l__law_raised => k_is)
  (case c__law_raised => k_is)
  (case k__law_raised => k_is)
  (case a__law_truths => k_is)
  (case l__law_truths => k_is)
  (case c__law_truths => k_is)
  (case k__law_truths => k_is)
  (case a__law_right => k_is)
  (case l__law_right => k_is)
  (case c__law_right => k_is)
  (case k__law_right => k_is)
  (case a_law => k_is)
  (case l_law => k_is)
  (case c_law => k_is)
  (case k_law => k_is)
  (case z_ValueError => k_is)
  (case z_isinstance => k_is)
  (case z_range => k_is)
  (case z_super => k_is)
  (case a_LandError => k_is)
  (case a_NoNumber => k_is)
  (case a_NoLine => k_is)
  (case a_NoBox => k_is)
  (case a_TooMany => k_is)
  (case a_NoSpot => k_is)
  (case a_NoName => k_is)
  (case a_Taken => k_is)
  (case a_Unknown => k_is)
  (case a_NoDeed => k_is)
  (case a_NoLot => k_is)
  (case a_NoCount => k_is)
  (case a_NoWeights => k_is)
  (case a_NoText => k_is)
  (case a_NoRow => k_is)
  (case x1_NoNumber => k_exc)
  (case x2_NoNumber => k_is)
  (case x3_NoNumber => k_is)
  (case x4_NoNumber => k_is)
  (case x5_NoNumber => k_is)
  (case x6_NoNumber => k_is)
  (case x7_NoNumber => k_is)
  (case x8_NoNumber => k_is)
  (case x9_NoNumber => k_is)
  (case x1_NoLine => k_exc)
  (case x2_NoLine => k_is)
  (case x3_NoLine => k_is)
  (case x4_NoLine => k_is)
  (case x5_NoLine => k_is)
  (case x6_NoLine => k_is)
  (case x7_NoLine => k_is)
  (case x8_NoLine => k_is)
  (case x9_NoLine => k_is)
  (case x1_NoBox => k_exc)
  (case x2_NoBox => k_is)
  (case x3_NoBox => k_is)
  (case x4_NoBox => k_is)
  (case x5_NoBox => k_is)
  (case x6_NoBox => k_is)
  (case x7_NoBox => k_is)
  (case x8_NoBox => k_is)
  (case x9_NoBox => k_is)
  (case x1_TooMany => k_exc)
  (case x2_TooMany => k_is)
  (case x3_TooMany => k_is)
  (case x4_TooMany => k_is)
  (case x5_TooMany => k_is)
  (case x6_TooMany => k_is)
  (case x7_TooMany => k_is)
  (case x8_TooMany => k_is)
  (case x9_TooMany => k_is)
  (case x1_NoName => k_exc)
  (case x2_NoName => k_is)
  (case x3_NoName => k_is)
  (case x4_NoName => k_is)
  (case x5_NoName => k_is)
  (case x6_NoName => k_is)
  (case x7_NoName => k_is)
  (case x8_NoName => k_is)
  (case x9_NoName => k_is)
  (case x1_Taken => k_exc)
  (case x2_Taken => k_is)
  (case x3_Taken => k_is)
  (case x4_Taken => k_is)
  (case x5_Taken => k_is)
  (case x6_Taken => k_is)
  (case x7_Taken => k_is)
  (case x8_Taken => k_is)
  (case x9_Taken => k_is)
  (case x1_Unknown => k_exc)
  (case x2_Unknown => k_is)
  (case x3_Unknown => k_is)
  (case x4_Unknown => k_is)
  (case x5_Unknown => k_is)
  (case x6_Unknown => k_is)
  (case x7_Unknown => k_is)
  (case x8_Unknown => k_is)
  (case x9_Unknown => k_is)
  (case x1_NoDeed => k_exc)
  (case x2_NoDeed => k_is)
  (case x3_NoDeed => k_is)
  (case x4_NoDeed => k_is)
  (case x5_NoDeed => k_is)
  (case x6_NoDeed => k_is)
  (case x7_NoDeed => k_is)
  (case x8_NoDeed => k_is)
  (case x9_NoDeed => k_is)
  (case x1_NoLot => k_exc)
  (case x2_NoLot => k_is)
  (case x3_NoLot => k_is)
  (case x4_NoLot => k_is)
  (case x5_NoLot => k_is)
  (case x6_NoLot => k_is)
  (case x7_NoLot => k_is)
  (case x8_NoLot => k_is)
  (case x9_NoLot => k_is)
  (case x1_NoCount => k_exc)
  (case x2_NoCount => k_is)
  (case x3_NoCount => k_is)
  (case x4_NoCount => k_is)
  (case x5_NoCount => k_is)
  (case x6_NoCount => k_is)
  (case x7_NoCount => k_is)
  (case x8_NoCount => k_is)
  (case x9_NoCount => k_is)
  (case x1_NoWeights => k_exc)
  (case x2_NoWeights => k_is)
  (case x3_NoWeights => k_is)
  (case x4_NoWeights => k_is)
  (case x5_NoWeights => k_is)
  (case x6_NoWeights => k_is)
  (case x7_NoWeights => k_is)
  (case x8_NoWeights => k_is)
  (case x9_NoWeights => k_is)
  (case x1_NoText => k_exc)
  (case x2_NoText => k_is)
  (case x3_NoText => k_is)
  (case x4_NoText => k_is)
  (case x5_NoText => k_is)
  (case x6_NoText => k_is)
  (case x7_NoText => k_is)
  (case x8_NoText => k_is)
  (case x9_NoText => k_is)
  (case x1_NoRow => k_exc)
  (case x2_NoRow => k_is)
  (case x3_NoRow => k_is)
  (case x4_NoRow => k_is)
  (case x5_NoRow => k_is)
  (case x6_NoRow => k_is)
  (case x7_NoRow => k_is)
  (case x8_NoRow => k_is)
  (case x9_NoRow => k_is)
  (case y1_ => k_is)
  (case y2_ => kernel_rfl)
  (case y3_ => kernel_rfl)
  (case y4_ => k_is)
  (case y5_ => kernel_rfl)
  (case y6_ => k_is)
  (case y7_ => k_is)
  (case y8_ => k_is)
  (case y9_ => k_is)
  (case y10_ => rfl)
  (case y11_ => kernel_rfl)
  (case y12_ => kernel_rfl)
  (case y14_ => k_is)
  (case y15_ => k_is)
  (case y16_ => k_is)
  (case y17_ => k_is)
  (case y18_ => k_is)
  (case y19_ => k_is)
  (case y20_ => k_is)
  (case y21_ => k_is)
  (case y22_ => k_is)
  (case y23_ => k_is)
  (case y24_ => k_is)
  (case y25_ => k_is)
  (case y26_ => k_is)
  (case y27_ => k_is)
  (case y28_ => k_is)
  (case m_NoNumber_LandError => kts_exm)
  (case m_NoLine_LandError => kts_exm)
  (case m_NoBox_LandError => kts_exm)
  (case m_TooMany_LandError => kts_exm)
  (case m_NoSpot_LandError => kts_exm)
  (case m_NoName_LandError => kts_exm)
  (case m_Taken_LandError => kts_exm)
  (case m_Unknown_LandError => kts_exm)
  (case m_NoDeed_LandError => kts_exm)
  (case m_NoLot_LandError => kts_exm)
  (case m_NoCount_LandError => kts_exm)
  (case m_NoWeights_LandError => kts_exm)
  (case m_NoText_LandError => kts_exm)
  (case m_NoRow_LandError => kts_exm)
  (case i_NoNumber_ValueError => kit_is)
  (case i_NoLine_ValueError => kit_is)
  (case i_NoBox_ValueError => kit_is)
  (case i_TooMany_ValueError => kit_is)
  (case i_NoSpot_ValueError => kit_is)
  (case i_NoName_ValueError => kit_is)
  (case i_Taken_ValueError => kit_is)
  (case i_Unknown_ValueError => kit_is)
  (case i_NoDeed_ValueError => kit_is)
  (case i_NoLot_ValueError => kit_is)
  (case i_NoCount_ValueError => kit_is)
  (case i_NoWeights_ValueError => kit_is)
  (case i_NoText_ValueError => kit_is)
  (case i_NoRow_ValueError => kit_is)
  (case i_NoNumber_NoNumber => kit_is)
  (case i_NoNumber_NoLine => kit_is)
  (case i_NoNumber_NoBox => kit_is)
  (case i_NoNumber_TooMany => kit_is)
  (case i_NoNumber_NoSpot => kit_is)
  (case i_NoNumber_NoName => kit_is)
  (case i_NoNumber_Taken => kit_is)
  (case i_NoNumber_Unknown => kit_is)
  (case i_NoNumber_NoDeed => kit_is)
  (case i_NoNumber_NoLot => kit_is)
  (case i_NoNumber_NoCount => kit_is)
  (case i_NoNumber_NoWeights => kit_is)
  (case i_NoNumber_NoText => kit_is)
  (case i_NoNumber_NoRow => kit_is)
  (case i_NoLine_NoNumber => kit_is)
  (case i_NoLine_NoLine => kit_is)
  (case i_NoLine_NoBox => kit_is)
  (case i_NoLine_TooMany => kit_is)
  (case i_NoLine_NoSpot => kit_is)
  (case i_NoLine_NoName => kit_is)
  (case i_NoLine_Taken => kit_is)
  (case i_NoLine_Unknown => kit_is)
  (case i_NoLine_NoDeed => kit_is)
  (case i_NoLine_NoLot => kit_is)
  (case i_NoLine_NoCount => kit_is)
  (case i_NoLine_NoWeights => kit_is)
  (case i_NoLine_NoText => kit_is)
  (case i_NoLine_NoRow => kit_is)
  (case i_NoBox_NoNumber => kit_is)
  (case i_NoBox_NoLine => kit_is)
  (case i_NoBox_NoBox => kit_is)
  (case i_NoBox_TooMany => kit_is)
  (case i_NoBox_NoSpot => kit_is)
  (case i_NoBox_NoName => kit_is)
  (case i_NoBox_Taken => kit_is)
  (case i_NoBox_Unknown => kit_is)
  (case i_NoBox_NoDeed => kit_is)
  (case i_NoBox_NoLot => kit_is)
  (case i_NoBox_NoCount => kit_is)
  (case i_NoBox_NoWeights => kit_is)
  (case i_NoBox_NoText => kit_is)
  (case i_NoBox_NoRow => kit_is)
  (case i_TooMany_NoNumber => kit_is)
  (case i_TooMany_NoLine => kit_is)
  (case i_TooMany_NoBox => kit_is)
  (case i_TooMany_TooMany => kit_is)
  (case i_TooMany_NoSpot => kit_is)
  (case i_TooMany_NoName => kit_is)
  (case i_TooMany_Taken => kit_is)
  (case i_TooMany_Unknown => kit_is)
  (case i_TooMany_NoDeed => kit_is)
  (case i_TooMany_NoLot => kit_is)
  (case i_TooMany_NoCount => kit_is)
  (case i_TooMany_NoWeights => kit_is)
  (case i_TooMany_NoText => kit_is)
  (case i_TooMany_NoRow => kit_is)
  (case i_NoSpot_NoNumber => kit_is)
  (case i_NoSpot_NoLine => kit_is)
  (case i_NoSpot_NoBox => kit_is)
  (case i_NoSpot_TooMany => kit_is)
  (case i_NoSpot_NoSpot => kit_is)
  (case i_NoSpot_NoName => kit_is)
  (case i_NoSpot_Taken => kit_is)
  (case i_NoSpot_Unknown => kit_is)
  (case i_NoSpot_NoDeed => kit_is)
  (case i_NoSpot_NoLot => kit_is)
  (case i_NoSpot_NoCount => kit_is)
  (case i_NoSpot_NoWeights => kit_is)
  (case i_NoSpot_NoText => kit_is)
  (case i_NoSpot_NoRow => kit_is)
  (case i_NoName_NoNumber => kit_is)
  (case i_NoName_NoLine => kit_is)
  (case i_NoName_NoBox => kit_is)
  (case i_NoName_TooMany => kit_is)
  (case i_NoName_NoSpot => kit_is)
  (case i_NoName_NoName => kit_is)
  (case i_NoName_Taken => kit_is)
  (case i_NoName_Unknown => kit_is)
  (case i_NoName_NoDeed => kit_is)
  (case i_NoName_NoLot => kit_is)
  (case i_NoName_NoCount => kit_is)
  (case i_NoName_NoWeights => kit_is)
  (case i_NoName_NoText => kit_is)
  (case i_NoName_NoRow => kit_is)
  (case i_Taken_NoNumber => kit_is)
  (case i_Taken_NoLine => kit_is)
  (case i_Taken_NoBox => kit_is)
  (case i_Taken_TooMany => kit_is)
  (case i_Taken_NoSpot => kit_is)
  (case i_Taken_NoName => kit_is)
  (case i_Taken_Taken => kit_is)
  (case i_Taken_Unknown => kit_is)
  (case i_Taken_NoDeed => kit_is)
  (case i_Taken_NoLot => kit_is)
  (case i_Taken_NoCount => kit_is)
  (case i_Taken_NoWeights => kit_is)
  (case i_Taken_NoText => kit_is)
  (case i_Taken_NoRow => kit_is)
  (case i_Unknown_NoNumber => kit_is)
  (case i_Unknown_NoLine => kit_is)
  (case i_Unknown_NoBox => kit_is)
  (case i_Unknown_TooMany => kit_is)
  (case i_Unknown_NoSpot => kit_is)
  (case i_Unknown_NoName => kit_is)
  (case i_Unknown_Taken => kit_is)
  (case i_Unknown_Unknown => kit_is)
  (case i_Unknown_NoDeed => kit_is)
  (case i_Unknown_NoLot => kit_is)
  (case i_Unknown_NoCount => kit_is)
  (case i_Unknown_NoWeights => kit_is)
  (case i_Unknown_NoText => kit_is)
  (case i_Unknown_NoRow => kit_is)
  (case i_NoDeed_NoNumber => kit_is)
  (case i_NoDeed_NoLine => kit_is)
  (case i_NoDeed_NoBox => kit_is)
  (case i_NoDeed_TooMany => kit_is)
  (case i_NoDeed_NoSpot => kit_is)
  (case i_NoDeed_NoName => kit_is)
  (case i_NoDeed_Taken => kit_is)
  (case i_NoDeed_Unknown => kit_is)
  (case i_NoDeed_NoDeed => kit_is)
  (case i_NoDeed_NoLot => kit_is)
  (case i_NoDeed_NoCount => kit_is)
  (case i_NoDeed_NoWeights => kit_is)
  (case i_NoDeed_NoText => kit_is)
  (case i_NoDeed_NoRow => kit_is)
  (case i_NoLot_NoNumber => kit_is)
  (case i_NoLot_NoLine => kit_is)
  (case i_NoLot_NoBox => kit_is)
  (case i_NoLot_TooMany => kit_is)
  (case i_NoLot_NoSpot => kit_is)
  (case i_NoLot_NoName => kit_is)
  (case i_NoLot_Taken => kit_is)
  (case i_NoLot_Unknown => kit_is)
  (case i_NoLot_NoDeed => kit_is)
  (case i_NoLot_NoLot => kit_is)
  (case i_NoLot_NoCount => kit_is)
  (case i_NoLot_NoWeights => kit_is)
  (case i_NoLot_NoText => kit_is)
  (case i_NoLot_NoRow => kit_is)
  (case i_NoCount_NoNumber => kit_is)
  (case i_NoCount_NoLine => kit_is)
  (case i_NoCount_NoBox => kit_is)
  (case i_NoCount_TooMany => kit_is)
  (case i_NoCount_NoSpot => kit_is)
  (case i_NoCount_NoName => kit_is)
  (case i_NoCount_Taken => kit_is)
  (case i_NoCount_Unknown => kit_is)
  (case i_NoCount_NoDeed => kit_is)
  (case i_NoCount_NoLot => kit_is)
  (case i_NoCount_NoCount => kit_is)
  (case i_NoCount_NoWeights => kit_is)
  (case i_NoCount_NoText => kit_is)
  (case i_NoCount_NoRow => kit_is)
  (case i_NoWeights_NoNumber => kit_is)
  (case i_NoWeights_NoLine => kit_is)
  (case i_NoWeights_NoBox => kit_is)
  (case i_NoWeights_TooMany => kit_is)
  (case i_NoWeights_NoSpot => kit_is)
  (case i_NoWeights_NoName => kit_is)
  (case i_NoWeights_Taken => kit_is)
  (case i_NoWeights_Unknown => kit_is)
  (case i_NoWeights_NoDeed => kit_is)
  (case i_NoWeights_NoLot => kit_is)
  (case i_NoWeights_NoCount => kit_is)
  (case i_NoWeights_NoWeights => kit_is)
  (case i_NoWeights_NoText => kit_is)
  (case i_NoWeights_NoRow => kit_is)
  (case i_NoText_NoNumber => kit_is)
  (case i_NoText_NoLine => kit_is)
  (case i_NoText_NoBox => kit_is)
  (case i_NoText_TooMany => kit_is)
  (case i_NoText_NoSpot => kit_is)
  (case i_NoText_NoName => kit_is)
  (case i_NoText_Taken => kit_is)
  (case i_NoText_Unknown => kit_is)
  (case i_NoText_NoDeed => kit_is)
  (case i_NoText_NoLot => kit_is)
  (case i_NoText_NoCount => kit_is)
  (case i_NoText_NoWeights => kit_is)
  (case i_NoText_NoText => kit_is)
  (case i_NoText_NoRow => kit_is)
  (case i_NoRow_NoNumber => kit_is)
  (case i_NoRow_NoLine => kit_is)
  (case i_NoRow_NoBox => kit_is)
  (case i_NoRow_TooMany => kit_is)
  (case i_NoRow_NoSpot => kit_is)
  (case i_NoRow_NoName => kit_is)
  (case i_NoRow_Taken => kit_is)
  (case i_NoRow_Unknown => kit_is)
  (case i_NoRow_NoDeed => kit_is)
  (case i_NoRow_NoLot => kit_is)
  (case i_NoRow_NoCount => kit_is)
  (case i_NoRow_NoWeights => kit_is)
  (case i_NoRow_NoText => kit_is)
  (case i_NoRow_NoRow => kit_is)
