import PyProof.Rows.All
import Wide.All
import OpenK.AllK
import Wide.FinOn
import Lean
import PyProof.EqAt
import PyProof.EqKinds
import PyProof.TupleCall
import PyProof.ExcArgsOwn
import PyProof.ExcAttrAll.ValueError
import KE.KTryMore
import PyProof.NsDelKeeps
import PyProof.ExcBaseAll.ValueError
import KE.RegKTryMore
import KE.RegKIsAll
import KE.KRevSl
import PyProof.ZipIter
import PyProof.DictIter
import KE.KDictIter
import KE.KDictList
import PyProof.EnumStmt
import PyProof.WalksEnum
import PyProof.EnumMake
import PyProof.Rows.EnumRows
import PyProof.Rows.InDataRows
import PyProof.SumWalk
import PyProof.Rows.SeqCalls
import PyProof.WalksMore
import PyProof.Rows.SetFrom
import PyProof.SetRoads
import PyProof.Rows.TupMore
import PyProof.Rows.SortWalk
import PyProof.ListRange
import KE.KSortTup
import KE.KLam
import PyProof.ListRange
import PySem.Challenge.RW_nearlands_k56_rims
set_option Elab.async false
set_option linter.all false
set_option maxRecDepth 100000
namespace L2
open PySem PySem.Spec PyProof.Rows
noncomputable abbrev Key := Sum Int Str
noncomputable def keyIs : Key → Value → Bool
 | .inl k, v => Value.isInt k v
 | .inr x, v => Value.isStrOf x v
noncomputable def keyH (w : World) : Key → Int
 | .inl k => hashInt k
 | .inr x => hashStr w x
theorem keyIs_shape : ∀ {k : Key} {v : Value}, keyIs k v = true → (∃ i t, k = Sum.inl i ∧ v = Value.int i t) ∨ (∃ x t, k = Sum.inr x ∧ v = Value.str x t)
 | .inl i, v, h => by
  obtain ⟨t, e⟩ := Value.isInt_shape (k := i) (v := v) h
  exact .inl ⟨i, t, rfl, e⟩
 | .inr x, v, h => by
  obtain ⟨t, e⟩ := Value.isStrOf_shape (x := x) (v := v) h
  exact .inr ⟨x, t, rfl, e⟩
theorem keyIs_int (i : Int) (t : Tok) : keyIs (.inl i) (.int i t) = true := by simp [keyIs, Value.isInt]
theorem keyIs_str (x : Str) (t : Tok) : keyIs (.inr x) (.str x t) = true := by simp [keyIs, Value.isStrOf]
theorem key_ll (a b : Int) : decide ((Sum.inl a : Key) = Sum.inl b) = (a == b) := by
 by_cases e : a = b
 ·subst e; simp
 ·have h : ¬ (Sum.inl a : Key) = Sum.inl b := fun q => e (Sum.inl.inj q)
  rw [decide_eq_false h]
  exact (beq_eq_false_iff_ne.mpr e).symm
theorem key_rr (a b : Str) : decide ((Sum.inr a : Key) = Sum.inr b) = decide (a = b) := by
 by_cases e : a = b
 ·subst e; simp
 ·have h : ¬ (Sum.inr a : Key) = Sum.inr b := fun q => e (Sum.inr.inj q)
  rw [decide_eq_false h, decide_eq_false e]
theorem key_lr (a : Int) (b : Str) : decide ((Sum.inl a : Key) = Sum.inr b) = false := decide_eq_false (fun q => nomatch q)
theorem key_rl (a : Str) (b : Int) : decide ((Sum.inr a : Key) = Sum.inl b) = false := decide_eq_false (fun q => nomatch q)
noncomputable def mixKind (prog : Program) (w : World) : PySem.KeyKind prog w Key where
 is := keyIs
 hash := keyH w
 inj := fun v a b ha hb => by
  rcases keyIs_shape ha with ⟨i, t, rfl, rfl⟩ | ⟨x, t, rfl, rfl⟩
  ·rcases keyIs_shape hb with ⟨j, u, rfl, e⟩ | ⟨y, u, rfl, e⟩
   ·injection e with e1 _; rw [e1]
   ·exact nomatch e
  ·rcases keyIs_shape hb with ⟨j, u, rfl, e⟩ | ⟨y, u, rfl, e⟩
   ·exact nomatch e
   ·injection e with e1 _; rw [e1]
 byValue := fun k v h => by
  rcases keyIs_shape h with ⟨i, t, rfl, rfl⟩ | ⟨x, t, rfl, rfl⟩ <;> rfl
 pyHash := fun hv h => by
  rcases keyIs_shape hv with ⟨i, t, rfl, rfl⟩ | ⟨x, t, rfl, rfl⟩
  ·exact wpAny_pyHash_int h
  ·exact wpAny_pyHash_str h
 eqBool := fun hu hv h => by
  rcases keyIs_shape hu with ⟨i, t, rfl, rfl⟩ | ⟨x, t, rfl, rfl⟩
  ·rcases keyIs_shape hv with ⟨j, u, rfl, rfl⟩ | ⟨y, u, rfl, rfl⟩
   ·rw [key_ll] at h; exact wpAny_eqBool_int h
   ·rw [key_lr] at h; exact SeqAt.EqAt.int_str i t y u _ _ _ _ h
  ·rcases keyIs_shape hv with ⟨j, u, rfl, rfl⟩ | ⟨y, u, rfl, rfl⟩
   ·rw [key_rl] at h; exact SeqAt.EqAt.str_int x t j u _ _ _ _ h
   ·rw [key_rr] at h; exact wpAny_eqBool_str h
 «strs» := fun k x t v h => by
  rcases keyIs_shape h with ⟨i, u, rfl, e⟩ | ⟨y, u, rfl, e⟩
  ·exact nomatch e
  ·injection e with e1 _
   subst e1
   cases v <;> rfl
theorem mixKind_int (prog : Program) (w : World) (i : Int) (t : Tok) : (mixKind prog w).is (.inl i) (.int i t) = true := keyIs_int i t
theorem mixKind_str (prog : Program) (w : World) (x : Str) (t : Tok) : (mixKind prog w).is (.inr x) (.str x t) = true := keyIs_str x t
end L2
namespace L2
open PySem PySem.Spec PyProof.Rows
inductive V where
 | non | bl (b : Bool) | int (i : Int) | str (x : Str) | byt (b : Array UInt8) | flt (b : UInt64) | ref (a : Addr) | ty (n : String)
 deriving DecidableEq
noncomputable def RelV : V → Value → Prop
 | .non, u => u = Value.none
 | .bl b, u => u = Value.bool b
 | .int i, u => ∃ t, u = Value.int i t
 | .str x, u => ∃ t, u = Value.str x t
 | .byt b, u => ∃ t, u = Value.bytes b t
 | .flt b, u => ∃ t, u = Value.float b t
 | .ref a, u => u = Value.ref a
 | .ty n, u => u = Value.type n
noncomputable abbrev Vals : List V → List Value → Prop := Paired RelV
theorem Vals.length {xs : List V} {us : List Value} (r : Vals xs us) : xs.length = us.length := Paired.length r
theorem Vals.get : ∀ {xs : List V} {us : List Value} {i : Nat} {x : V}, Vals xs us → xs[i]? = some x → ∃ u, us[i]? = some u ∧ RelV x u
 | _, _, _, _, .nil, e => by simp at e
 | _, _, 0, _, .cons r _, e => by simp at e; subst e; exact ⟨_, rfl, r⟩
 | _, _, i + 1, x, .cons _ t, e => by
  obtain ⟨u, h1, h2⟩ := Vals.get (i := i) (x := x) t (by simpa using e)
  exact ⟨u, by simpa using h1, h2⟩
theorem Vals.set {x : V} {u : Value} (r : RelV x u) : ∀ {xs : List V} {us : List Value} (i : Nat), Vals xs us → Vals (xs.set i x) (us.set i u)
 | _, _, _, .nil => .nil
 | _, _, 0, .cons _ t => .cons r t
 | _, _, i + 1, .cons q t => .cons q (Vals.set r i t)
theorem Vals.append : ∀ {xs ys : List V} {us ws : List Value}, Vals xs us → Vals ys ws → Vals (xs ++ ys) (us ++ ws)
 | _, _, _, _, .nil, s => s
 | _, _, _, _, .cons r t, s => .cons r (Vals.append t s)
theorem Vals.take : ∀ {xs : List V} {us : List Value} (n : Nat), Vals xs us → Vals (xs.take n) (us.take n)
 | _, _, 0, _ => .nil
 | _, _, _ + 1, .nil => .nil
 | _, _, n + 1, .cons r t => .cons r (Vals.take n t)
theorem Vals.drop : ∀ {xs : List V} {us : List Value} (n : Nat), Vals xs us → Vals (xs.drop n) (us.drop n)
 | _, _, 0, r => r
 | _, _, _ + 1, .nil => .nil
 | _, _, n + 1, .cons _ t => Vals.drop n t
noncomputable def RelO : Option V → Option Value → Prop
 | some v, some u => RelV v u
 | none, none => True
 | _, _ => False
noncomputable def KV {κ : Type} : List (κ × V) → List (κ × Value) → Prop := Paired fun (p : κ × V) (q : κ × Value) => p.1 = q.1 ∧ RelV p.2 q.2
noncomputable def kV : Key → V
 | .inl i => .int i
 | .inr x => .str x
inductive HO where
 | lst (xs : List V)
 | tup (xs : List V)
 | dK (kvs : List (Key × V)) | dT (kvs : List (List Key × V))
 | set (S : Int → Bool) (n : Nat)
 | ins (C dx : Addr) (fs : List (Str × V))
 | own (x : Addr)
 | xd (fs : List (Str × V))
 | met (f x : Addr)
 | rng (lo hi : Int)
 | frz (o : Obj) (u : HO)
 | tbl (ps : Array Value)
 | ext (φ : Heap → Prop)
noncomputable abbrev Hp := Addr → Option HO
noncomputable def upd (H : Hp) (a : Addr) (o : HO) : Hp := fun b => if b = a then some o else H b
theorem upd_same {H : Hp} {a : Addr} {o : HO} : upd H a o a = some o := by unfold upd; rw [if_pos rfl]
theorem upd_ne {H : Hp} {a b : Addr} {o : HO} (h : b ≠ a) : upd H a o b = H b := by unfold upd; rw [if_neg h]
theorem ne_of {H : Hp} {a b : Addr} {o u : HO} (h : H a = some o) (h' : H b = some u) (d : o ≠ u) : a ≠ b := by
 intro e; subst e; rw [h] at h'; exact d (Option.some.inj h')
theorem ne_of_none {H : Hp} {a b : Addr} {o : HO} (h : H a = some o) (h' : H b = none) : a ≠ b := by
 intro e; subst e; rw [h] at h'; cases h'
section
variable (P : Program) (w : World)
noncomputable def ObjOk (H : Hp) (h : Heap) (a : Addr) : HO → Prop
 | .lst xs => xs.length ≤ sizeLine ∧ ∃ (its : List Value) (n : Nat), Vals xs its ∧ h.get? a = some { cls := .type "list", data := .seq its.toArray n }
 | .tup xs => xs.length ≤ sizeLine ∧ ∃ its : List Value, Vals xs its ∧ IsTup h a its.toArray
 | .dK kvs => kvs.length ≤ sizeLine ∧ (a == sysModules) = false ∧ ∃ vs, KV kvs vs ∧ h.DictOf (mixKind P w) a vs
 | .dT kvs => kvs.length ≤ sizeLine ∧ (a == sysModules) = false ∧ ∃ xs : List (List Key × Addr × Value),
   Paired (fun (p : List Key × V) (q : List Key × Addr × Value) => p.1 = q.1 ∧ H q.2.1 = some (.tup (p.1.map kV)) ∧ RelV p.2 q.2.2) kvs xs ∧
   ∃ o es ep, h.get? a = some o ∧ o.ExactDict ∧ o.data = .dict es ep ∧ es.toList = xs.map (entryOfKey (tupleKind (mixKind P w))) ∧ (xs.map (·.1)).Nodup
 | .set S n => h.SetOf (intKind P w) a S n
 | .ins C dx fs => H dx = some (.own a) ∧ fs.length ≤ 1000 ∧ dx ≠ a ∧ h.get? a = some (PySem.W.instObj C dx) ∧
   ∃ mA, h.Ns1 dx mA ∧ (∀ f, RelO (fs.lookup f) (mA f)) ∧ PySem.Within mA (fs.map (·.1))
 | .own _ => ∃ o, h.get? a = some o
 | .xd fs => ∃ mA, h.Ns1 a mA ∧ ∀ f, RelO (fs.lookup f) (mA f)
 | .rng lo hi => ∃ t u v, h.get? a = some { cls := .type "range", data := .fields #[.int lo t, .int hi u, .int 1 v] }
 | .frz o u => h.get? a = some o ∧ ObjOk H h a u
 | .tbl ps => ∃ qs : Array Value, h.get? a = some { cls := .none, data := .fields qs } ∧ (qs = #[] ∨ ∃ (c : Addr) (oc : Obj) (l d : Value) (q : Str) (t u : Tok) (vs : Array Value),
   ps = #[l, d, .str q t] ∧ qs = #[l, d, .ref c] ∧ H c = some (.frz oc (.own 0)) ∧ oc.data = .fields vs ∧ vs[1]? = some (.str q u))
 | .met f x => h.get? a = some (PySem.W.methodObj (.ref f) (.ref x))
 | .ext φ => φ h ∧ (∃ o, h.get? a = some o) ∧ ∀ h1 h2 : Heap, φ h1 → (∀ o, h1.get? a = some o → h2.get? a = some o) → φ h2
noncomputable def HOk (H : Hp) (h : Heap) : Prop := ∀ a o, H a = some o → ObjOk P w H h a o
end
section
variable {P : Program} {w : World} {H H' : Hp} {h h' : Heap} {a : Addr} {o : HO}
theorem ObjOk.lt (x : ObjOk P w H h a o) : a < h.objs.size := by
 cases o with
 | lst xs => obtain ⟨_, _, _, _, e⟩ := x; exact Heap.lt_size e
 | tup xs => obtain ⟨_, _, _, p⟩ := x; exact p.lt
 | dK kvs => obtain ⟨_, _, _, _, o, _, _, e, _⟩ := x; exact Heap.lt_size e
 | dT kvs => obtain ⟨_, _, _, _, o, _, _, e, _⟩ := x; exact Heap.lt_size e
 | set S n => obtain ⟨o, _, _, _, e, _⟩ := x; exact Heap.lt_size e
 | ins C dx fs => obtain ⟨_, _, _, e, _⟩ := x; exact Heap.lt_size e
 | own y => obtain ⟨_, e⟩ := x; exact Heap.lt_size e
 | xd fs => obtain ⟨_, ⟨_, _, _, e, _⟩, _⟩ := x; exact Heap.lt_size e
 | rng lo hi => obtain ⟨_, _, _, e⟩ := x; exact Heap.lt_size e
 | frz ob u => obtain ⟨e, _⟩ := x; exact Heap.lt_size e
 | tbl ps => obtain ⟨_, e, _⟩ := x; exact Heap.lt_size e
 | met f y => exact Heap.lt_size (show h.get? a = some _ from x)
 | ext φ => obtain ⟨_, ⟨_, e⟩, _⟩ := x; exact Heap.lt_size e
theorem Paired.mapP {α β : Type} {F G : α → β → Prop} : ∀ {l₁ : List α} {l₂ : List β}, Paired F l₁ l₂ → (∀ a b, F a b → G a b) → Paired G l₁ l₂
 | _, _, .nil, _ => .nil
 | _, _, .cons r t, f => .cons (f _ _ r) (Paired.mapP t f)
noncomputable def stillB : HO → Bool
 | .tup _ => true
 | .frz _ _ => true
 | _ => false
noncomputable abbrev Still := { o : HO // stillB o = true }
theorem ObjOk.stay (x : ObjOk P w H h a o) (k : ∀ b u, (b = a ∨ H b = some (.own a)) → h.get? b = some u → h'.get? b = some u)
  (ho : ∀ b, H b = some (.own a) → H' b = some (.own a)) (ht : ∀ (b : Addr) (xs : Still), H b = some xs.1 → H' b = some xs.1) : ObjOk P w H' h' a o := by
 induction o with
 | lst xs => obtain ⟨z, its, n, r, e⟩ := x; exact ⟨z, its, n, r, k _ _ (.inl rfl) e⟩
 | tup xs => obtain ⟨z, its, r, ob, e, c⟩ := x; exact ⟨z, its, r, ob, k _ _ (.inl rfl) e, c⟩
 | dK kvs => obtain ⟨z, y, vs, r, ob, es, ep, e, c⟩ := x; exact ⟨z, y, vs, r, ob, es, ep, k _ _ (.inl rfl) e, c⟩
 | dT kvs =>
  obtain ⟨z, y, xs, r, ob, es, ep, e, c⟩ := x
  exact ⟨z, y, xs, Paired.mapP r fun p q z => ⟨z.1, ht _ ⟨.tup _, rfl⟩ z.2.1, z.2.2⟩, ob, es, ep, k _ _ (.inl rfl) e, c⟩
 | set S n => obtain ⟨ob, es, ep, t, e, c⟩ := x; exact ⟨ob, es, ep, t, k _ _ (.inl rfl) e, c⟩
 | ins C dx fs =>
  obtain ⟨d, z, ne, e, mA, ⟨od, es, ep, e2, c⟩, r⟩ := x
  exact ⟨ho _ d, z, ne, k _ _ (.inl rfl) e, mA, ⟨od, es, ep, k _ _ (.inr d) e2, c⟩, r⟩
 | own y => obtain ⟨ob, e⟩ := x; exact ⟨ob, k _ _ (.inl rfl) e⟩
 | xd fs => obtain ⟨mA, ⟨od, es, ep, e, c⟩, r⟩ := x; exact ⟨mA, ⟨od, es, ep, k _ _ (.inl rfl) e, c⟩, r⟩
 | rng lo hi => obtain ⟨t, u, v, e⟩ := x; exact ⟨t, u, v, k _ _ (.inl rfl) e⟩
 | frz ob u ih => obtain ⟨e, q⟩ := x; exact ⟨k _ _ (.inl rfl) e, ih q⟩
 | tbl ps =>
  obtain ⟨qs, e, z⟩ := x
  refine ⟨qs, k _ _ (.inl rfl) e, z.imp id fun ⟨c, oc, l, d, q, t, u, vs, e1, e2, e3, e4⟩ => ⟨c, oc, l, d, q, t, u, vs, e1, e2, ht c ⟨.frz oc (.own 0), rfl⟩ e3, e4⟩⟩
 | met f y =>
  have e : h.get? a = some (PySem.W.methodObj (.ref f) (.ref y)) := x
  show h'.get? a = some (PySem.W.methodObj (.ref f) (.ref y))
  exact k a _ (.inl rfl) e
 | ext φ => obtain ⟨p, ⟨o, e⟩, st⟩ := x; exact ⟨st _ _ p fun o q => k _ _ (.inl rfl) q, ⟨o, k _ _ (.inl rfl) e⟩, st⟩
theorem HOk.lt (x : HOk P w H h) (e : H a = some o) : a < h.objs.size := (x a o e).lt
theorem HOk.fresh (x : HOk P w H h) (e : h.objs.size ≤ a) : H a = none := by
 cases q : H a with
 | none => rfl
 | some u => exact absurd (Nat.lt_of_lt_of_le (x.lt q) e) (Nat.lt_irrefl _)
theorem HOk.kept (x : HOk P w H h) (k : ∀ b u, h.get? b = some u → h'.get? b = some u) : HOk P w H h' := fun a o e =>
 (x a o e).stay (fun b u _ q => k b u q) (fun _ q => q) fun _ _ q => q
theorem HOk.laid (x : HOk P w H h) (k : ∀ b u, h.get? b = some u → h'.get? b = some u) (hp : h.objs.size ≤ a) (new : ObjOk P w (upd H a o) h' a o) : HOk P w (upd H a o) h' := fun b u e => by
 have hn := x.fresh hp
 by_cases hb : b = a
 ·subst hb; rw [upd_same] at e; cases e; exact new
 ·rw [upd_ne hb] at e
  exact (x b u e).stay (fun c v _ q => k c v q) (fun c q => by rw [upd_ne (ne_of_none q hn)]; exact q) fun c xs q => by rw [upd_ne (ne_of_none q hn)]; exact q
end
noncomputable def Rd (H : Hp) (a : Addr) (u : HO) : Prop := H a = some u ∨ ∃ o, H a = some (.frz o u)
theorem Rd.of {H : Hp} {a : Addr} {u : HO} (h : H a = some u) : Rd H a u := .inl h
theorem Rd.ok {P : Program} {w : World} {H : Hp} {h : Heap} {a : Addr} {u : HO} (r : Rd H a u) (x : HOk P w H h) : ObjOk P w H h a u := by
 rcases r with r | ⟨o, r⟩
 ·exact x a u r
 ·obtain ⟨_, q⟩ := x a _ r
  exact q
noncomputable def Mut : Option HO → Prop
 | some (.lst _) => True
 | some (.dK _) => True
 | some (.dT _) => True
 | some (.set _ _) => True
 | some (.ins _ _ _) => True
 | some (.ext _) => True
 | _ => False
section
variable {P : Program} {w : World} {H : Hp} {h h' : Heap} {x e : Addr} {o' : HO}
theorem HOk.write (ok : HOk P w H h) (mu : Mut (H x)) (he : e = x ∨ H e = some (.own x)) (k : ∀ b u, b ≠ e → h.get? b = some u → h'.get? b = some u) (heo : ∃ u, h'.get? e = some u)
  (new : ObjOk P w (upd H x o') h' x o') : HOk P w (upd H x o') h' := fun b u q => by
 have nown : ∀ c y, H c = some (.own y) → c ≠ x := fun c y r z => by subst z; rw [r] at mu; exact mu
 have ntup : ∀ c (xs : Still), H c = some xs.1 → c ≠ x := fun c xs r z => by
  subst z
  rw [r] at mu
  obtain ⟨o, ho⟩ := xs
  cases o <;> first | exact mu | cases ho
 by_cases hb : b = x
 ·subst hb; rw [upd_same] at q; cases q; exact new
 ·rw [upd_ne hb] at q
  by_cases hbe : b = e
  ·have q' : H b = some (.own x) := by
    rcases he with z | z
    ·exact absurd (hbe.trans z) hb
    ·rw [hbe]; exact z
   rw [q] at q'; cases q'
   obtain ⟨v, hv⟩ := heo
   exact ⟨v, by rw [hbe]; exact hv⟩
  ·refine (ok b u q).stay (fun c v hc r => k c v ?_ r) (fun c r => by rw [upd_ne (nown c b r)]; exact r) fun c xs r => by rw [upd_ne (ntup c xs r)]; exact r
   rcases hc with rfl | hc
   ·exact hbe
   ·rintro rfl
    rcases he with z | z
    ·exact nown c b hc z
    ·rw [hc] at z; cases z; exact hb rfl
end
structure Un (fs ex : List Addr) (H H' : Hp) (h h' : Heap) : Prop where
 keep : ∀ b o, h.get? b = some o → H b = none → b ∉ fs → b ∉ ex → h'.get? b = some o
 slot : ∀ b o, h.get? b = some o → H b = none → b ∈ fs → b ∉ ex → ∃ sl, h'.get? b = some { o with slots := sl }
 free : ∀ b o, h.get? b = some o → H b = none → b ∉ ex → H' b = none
 there : ∀ b o, h.get? b = some o → b ∉ ex → ∃ o', h'.get? b = some o'
 tups : ∀ b xs, H b = some (.tup xs) → H' b = some (.tup xs)
 frzs : ∀ b o u, H b = some (.frz o u) → H' b = some (.frz o u)
 tbls : ∀ b ps, H b = some (.tbl ps) → ∃ more, H' b = some (.tbl (ps ++ more))
section
variable {fs fs' ex ex' : List Addr} {H H1 H2 : Hp} {h h1 h2 h' : Heap} {a x e : Addr} {o : HO}
theorem Un.any (u : Un fs ex H H1 h h1) {b : Addr} {ob : Obj} (q : h.get? b = some ob) (n : H b = none) (hx : b ∉ ex) : ∃ sl, h1.get? b = some { ob with slots := sl } := by
 by_cases hb : b ∈ fs
 ·exact u.slot b ob q n hb hx
 ·exact ⟨ob.slots, u.keep b ob q n hb hx⟩
theorem Un.trans (a : Un fs ex H H1 h h1) (b : Un fs ex H1 H2 h1 h2) : Un fs ex H H2 h h2 where
 keep := fun c ob q n hc hx => b.keep c ob (a.keep c ob q n hc hx) (a.free c ob q n hx) hc hx
 slot := fun c ob q n hc hx => by
  obtain ⟨sl, e1⟩ := a.slot c ob q n hc hx
  obtain ⟨sl', e2⟩ := b.slot c _ e1 (a.free c ob q n hx) hc hx
  exact ⟨sl', e2⟩
 free := fun c ob q n hx => by
  obtain ⟨o', e1⟩ := a.there c ob q hx
  exact b.free c o' e1 (a.free c ob q n hx) hx
 there := fun c ob q hx => by
  obtain ⟨o', e1⟩ := a.there c ob q hx
  exact b.there c o' e1 hx
 tups := fun c xs q => b.tups c xs (a.tups c xs q)
 frzs := fun c ob xs q => b.frzs c ob xs (a.frzs c ob xs q)
 tbls := fun c ps q => by
  obtain ⟨m1, e1⟩ := a.tbls c ps q
  obtain ⟨m2, e2⟩ := b.tbls c _ e1
  exact ⟨m1 ++ m2, by rw [e2, Array.append_assoc]⟩
theorem Un.kept (k : ∀ b u, h.get? b = some u → h'.get? b = some u) : Un fs ex H H h h' :=
 ⟨fun b ob q _ _ _ => k b ob q, fun b ob q _ _ _ => ⟨ob.slots, k b ob q⟩, fun _ _ _ n _ => n, fun b ob q _ => ⟨ob, k b ob q⟩, fun _ _ q => q, fun _ _ _ q => q, fun _ ps q => ⟨#[], by rw [q]; simp⟩⟩
theorem Un.refl : Un fs ex H H h h := Un.kept fun _ _ q => q
theorem Un.laid (k : ∀ b u, h.get? b = some u → h'.get? b = some u) (hp : h.objs.size ≤ a) (hn : H a = none) : Un fs ex H (upd H a o) h h' where
 keep := fun b u q _ _ _ => k b u q
 slot := fun b u q _ _ _ => ⟨u.slots, k b u q⟩
 free := fun b u q n _ => by rw [upd_ne (Nat.ne_of_lt (Nat.lt_of_lt_of_le (Heap.lt_size q) hp))]; exact n
 there := fun b u q _ => ⟨u, k b u q⟩
 tups := fun b xs q => by rw [upd_ne (ne_of_none q hn)]; exact q
 frzs := fun b u xs q => by rw [upd_ne (ne_of_none q hn)]; exact q
 tbls := fun b ps q => ⟨#[], by rw [upd_ne (ne_of_none q hn), q]; simp⟩
theorem Un.write (mu : Mut (H x)) (he : e = x ∨ H e = some (.own x)) (k : ∀ b u, b ≠ e → h.get? b = some u → h'.get? b = some u) (heo : ∃ u, h'.get? e = some u) : Un fs ex H (upd H x o) h h' := by
 have hx : ∀ b, H b = none → b ≠ x := fun b n z => by subst z; rw [n] at mu; exact mu
 have hb : ∀ b, H b = none → b ≠ e := fun b n z => by
  subst z
  rcases he with r | r
  ·exact hx b n r
  ·rw [n] at r; cases r
 have hm : ∀ b u, H b = some u → ¬ Mut (some u) → b ≠ x := fun b u q nm z => by subst z; rw [q] at mu; exact nm mu
 refine ⟨fun b u q n _ _ => k b u (hb b n) q, fun b u q n _ _ => ⟨u.slots, k b u (hb b n) q⟩, fun b u q n _ => by rw [upd_ne (hx b n)]; exact n, fun b u q _ => ?_,
  fun b xs q => by rw [upd_ne (hm b _ q fun z => z)]; exact q, fun b u xs q => by rw [upd_ne (hm b _ q fun z => z)]; exact q, fun b ps q => ⟨#[], by rw [upd_ne (hm b _ q fun z => z), q]; simp⟩⟩
 by_cases hbe : b = e
 ·subst hbe; exact heo
 ·exact ⟨u, k b u hbe q⟩
theorem Un.mono (u : Un fs ex H H1 h h1) (hs : ∀ b ∈ fs, b ∈ fs') (hx : ∀ b ∈ ex, b ∈ ex') : Un fs' ex' H H1 h h1 :=
 ⟨fun b ob q n hb he => u.keep b ob q n (fun z => hb (hs b z)) fun z => he (hx b z), fun _ _ q n _ he => u.any q n fun z => he (hx _ z), fun b ob q n he => u.free b ob q n fun z => he (hx b z), fun b ob q he => u.there b ob q fun z => he (hx b z), u.tups, u.frzs, u.tbls⟩
end
noncomputable def trk (h : Heap) (H : Hp) : List Addr := (List.range h.objs.size).filter fun a => (H a).isSome
noncomputable def hidT (h : Heap) (H : Hp) : Heap := PySem.W.hideAll h (trk h H)
theorem hidT_size (h : Heap) (H : Hp) : (hidT h H).objs.size = h.objs.size := PySem.W.hideAll_size _ _
theorem hidT_get {h : Heap} {H : Hp} {b : Addr} {o : Obj} (e : h.get? b = some o) (n : H b = none) : (hidT h H).get? b = some o :=
 PySem.W.hideAll_get _ e fun hm => by
  have q : (H b).isSome = true := (List.mem_filter.mp hm).2
  rw [n] at q; simp at q
theorem of_hidT {h : Heap} {H : Hp} {b : Addr} {o : Obj} (e : (hidT h H).get? b = some o) : h.get? b = some o ∧ H b = none := by
 have e' : h.get? b = some o := PySem.W.of_hideAll (trk h H) e
 refine ⟨e', ?_⟩
 cases q : H b with
 | none => rfl
 | some x =>
  have hm : b ∈ trk h H := List.mem_filter.mpr ⟨List.mem_range.mpr (Heap.lt_size e'), by simp [q]⟩
  have z : (hidT h H).get? b = none := PySem.W.hideAll_none (trk h H) hm
  rw [z] at e; cases e
noncomputable def allNews (g h : Heap) (L : Addr) : List (Addr × Obj) := (List.range h.objs.size).filterMap fun a => if a = L ∨ (g.get? a).isSome = true then none else (h.get? a).map fun o => (a, o)
noncomputable def rest (g h : Heap) (L d : Addr) : List (Addr × Obj) := (allNews g h L).filter fun p => decide (p.1 ≠ d)
end L2
namespace L2
open PySem PySem.Spec PyProof.Rows
structure Mod (K : PySem.W.Frag) (mg : Str → Option Value) (base : Heap) : Prop where
 kin : K.In base
 glob : base.Ns mainGlobals mg
 blt : ∃ mb, base.Ns builtinsNs mb ∧ ∀ x : Str, x ≠ "__name__" → mb x = bootBuiltins x
 nolimit : base.NoLimit
structure Cx where
 prog : Program
 w : World
 K : PySem.W.Frag
 mg : Str → Option Value
 base : Heap
 A : Around
 N : List Str
 s₀ : Shared
 H₀ : Hp
 env : Env
 outer : List Env
 stack : List Env
 ex : List Addr
 fn : Str → Bool
 calm : Bool
 pn : List (Addr × Obj)
 xe : Value → Shared → Prop
noncomputable def frs (l : List Env) : List Addr := l.filterMap (·.frame)
noncomputable abbrev Cx.fs (X : Cx) : List Addr := frs X.outer
noncomputable def Vis (sc : Scope) (x : Str) : Prop := sc.names.lookup x = some .local ∨ sc.names.lookup x = some .cell ∨ sc.names.lookup x = some .free
noncomputable def Loc (sc : Scope) (x : Str) : Prop := sc.names.lookup x = some .local ∨ sc.names.lookup x = some .cell
noncomputable def Look (env : Env) (h : Heap) (m : Str → Option Value) (x : Str) (u : Value) : Prop :=
 (env.kindOf x = some .local ∧ m x = some u) ∨ ((env.kindOf x = some .cell ∨ env.kindOf x = some .free) ∧ ∃ c, env.cells.lookup x = some c ∧ h.IsCell c (some u))
structure Cx.Ok (X : Cx) : Prop where
 mod : Mod X.K X.mg X.base
 kind : X.env.scope.kind = .function
 glob : X.env.globals = mainGlobals
 blt : X.env.builtins = builtinsNs
 above : X.s₀.heap.objs.size ≤ X.env.locals
 inj : ∀ x y c, X.env.cells.lookup x = some c → X.env.cells.lookup y = some c → x = y
 has : ∀ x, (X.env.kindOf x = some .cell ∨ X.env.kindOf x = some .free) → ∃ c, X.env.cells.lookup x = some c
 cab : ∀ x c, X.fn x = true → X.env.cells.lookup x = some c → X.s₀.heap.objs.size ≤ c
 hd : X.calm = true → X.A.handled = none
 frames : X.A.frames = some X.stack
 stk : X.stack = X.outer ∨ (X.stack = X.env :: X.outer ∧ X.env.frame = some X.env.locals)
 exf : ∀ b ∈ X.ex, b ≠ X.env.locals ∧ ∀ x c, X.env.cells.lookup x = some c → c ≠ b
 bs : ∀ b o, X.base.get? b = some o → X.s₀.heap.get? b = some o ∧ X.H₀ b = none
 bsz : X.base.objs.size ≤ X.s₀.heap.objs.size
 noex : ∀ b o, X.base.get? b = some o → b ∉ X.ex
 exfs : ∀ b ∈ X.ex, b ∉ X.fs
 funs : X.s₀.heap.FunFrames X.base X.outer
 frf : ∀ b ∈ X.fs, X.H₀ b = none
structure Inv (X : Cx) (pins : List (Addr × Obj)) (σ : List (Option V)) (H : Hp) (s : Shared) : Prop where
 ok : X.Ok
 os : s.os = X.s₀.os
 bare : AllBare s.gens
 base : Un X.fs X.ex X.H₀ H X.s₀.heap s.heap
 loc : ∃ m, s.heap.Ns X.env.locals m ∧ ∀ (i : Nat) (x : Str) (v : V), X.N[i]? = some x → σ[i]? = some (some v) → Vis X.env.scope x → ∃ u, RelV v u ∧ Look X.env s.heap m x u
 cell : ∀ x c, X.env.cells.lookup x = some c → ∃ v, s.heap.IsCell c v
 free : H X.env.locals = none
 freeC : ∀ x c, X.env.cells.lookup x = some c → H c = none
 pin : ∀ p ∈ X.pn ++ pins, s.heap.get? p.1 = some p.2 ∧ H p.1 = none ∧ p.1 ≠ X.env.locals ∧ p.1 ∉ X.fs ∧ ∀ v, p.2.data ≠ .cell v
 hok : HOk X.prog X.w H s.heap
 len : σ.length = X.N.length
section
variable {X : Cx} {pins : List (Addr × Obj)} {σ : List (Option V)} {H H' : Hp} {s : Shared} {h' : Heap}
theorem Cx.Ok.nofr (ok : X.Ok) {b : Addr} {o : Obj} (e : X.base.get? b = some o) : b ∉ X.fs := fun hb => by
 have := (ok.funs.mem hb).1
 rw [e] at this; cases this
theorem Inv.bs (I : Inv X pins σ H s) : ∀ b o, X.base.get? b = some o → s.heap.get? b = some o ∧ H b = none := fun b o e =>
 ⟨I.base.keep b o (I.ok.bs b o e).1 (I.ok.bs b o e).2 (I.ok.nofr e) (I.ok.noex b o e), I.base.free b o (I.ok.bs b o e).1 (I.ok.bs b o e).2 (I.ok.noex b o e)⟩
theorem Inv.bk (I : Inv X pins σ H s) : ∀ b o, X.base.get? b = some o → s.heap.get? b = some o := fun b o e => (I.bs b o e).1
theorem Inv.mod (I : Inv X pins σ H s) : Mod X.K X.mg X.base := I.ok.mod
theorem Inv.kIn (I : Inv X pins σ H s) : X.K.In s.heap := I.ok.mod.kin.keeps I.bk
theorem Inv.nolimit (I : Inv X pins σ H s) : s.heap.NoLimit := I.ok.mod.nolimit.keeps I.bk
theorem Inv.fr (I : Inv X pins σ H s) : ∃ m, Fr X.base X.env.locals s.heap m :=
 let ⟨m, hn, _⟩ := I.loc
 ⟨m, hn, I.bk, Nat.le_trans I.ok.bsz I.ok.above⟩
theorem Inv.lt (I : Inv X pins σ H s) : X.env.locals < s.heap.objs.size := let ⟨_, hn, _⟩ := I.loc; hn.lt
theorem Inv.sz (I : Inv X pins σ H s) : X.s₀.heap.objs.size ≤ s.heap.objs.size := Nat.le_trans I.ok.above (Nat.le_of_lt I.lt)
theorem Inv.nofs (I : Inv X pins σ H s) {a : Addr} (h : s.heap.objs.size ≤ a) : a ∉ X.fs := fun hb => by
 obtain ⟨_, o, ho, _⟩ := I.ok.funs.mem hb
 exact absurd (Nat.lt_of_lt_of_le (Heap.lt_size ho) (Nat.le_trans I.sz h)) (Nat.lt_irrefl _)
theorem Inv.cne (I : Inv X pins σ H s) : ∀ x c, X.env.cells.lookup x = some c → c ≠ X.env.locals := fun x c e z => by
 obtain ⟨v, o, ho, hd⟩ := I.cell x c e
 obtain ⟨m, ⟨o', es, ep, ho', hd', _⟩, _⟩ := I.loc
 rw [z, ho'] at ho; cases ho; rw [hd'] at hd; cases hd
theorem Inv.funs (I : Inv X pins σ H s) : s.heap.FunFrames X.base X.outer := by
 have all : ∀ (l : List Env), (∀ b ∈ frs l, b ∈ X.fs) → X.s₀.heap.FunFrames X.base l → s.heap.FunFrames X.base l := by
  intro l
  induction l with
  | nil => intro _ _; trivial
  | cons env r ih =>
   intro hs hl
   obtain ⟨hk, ⟨L, o, hf, hn, ho, hd⟩, hr⟩ := hl
   have hL : L ∈ X.fs := hs L (by unfold frs; rw [List.filterMap_cons, hf]; exact List.mem_cons_self)
   obtain ⟨sl, e⟩ := I.base.slot L o ho (I.ok.frf L hL) hL fun z => I.ok.exfs L z hL
   exact ⟨hk, ⟨L, _, hf, hn, e, hd⟩, ih (fun b hb => hs b (by unfold frs; rw [List.filterMap_cons, hf]; exact List.mem_cons_of_mem _ hb)) hr⟩
 exact all X.outer (fun _ hb => hb) I.ok.funs
theorem Inv.stack (I : Inv X pins σ H s) : s.heap.FunFrames X.base X.stack := by
 rcases I.ok.stk with e | ⟨e, hf⟩
 ·rw [e]; exact I.funs
 ·rw [e]
  obtain ⟨m, hn, _⟩ := I.loc
  refine .cons (by rw [I.ok.kind]; decide) hf hn ?_ I.funs
  exact Heap.get?_none_of_le (Nat.le_trans I.ok.bsz I.ok.above)
theorem Inv.stkSub (I : Inv X pins σ H s) : ∀ b ∈ frs X.stack, b ∈ X.env.locals :: X.fs := fun b hb => by
 rcases I.ok.stk with e | ⟨e, hf⟩
 ·rw [e] at hb; exact List.mem_cons_of_mem _ hb
 ·rw [e] at hb
  unfold frs at hb
  rw [List.filterMap_cons, hf] at hb
  exact hb
theorem Inv.stkFree (I : Inv X pins σ H s) : ∀ b ∈ frs X.stack, H b = none := fun b hb => by
 rcases List.mem_cons.mp (I.stkSub b hb) with e | hb
 ·rw [e]; exact I.free
 ·obtain ⟨_, o, ho, _⟩ := I.ok.funs.mem hb
  exact I.base.free b o ho (I.ok.frf b hb) fun z => I.ok.exfs b z hb
theorem Inv.step {g' : Array GenState} {t' : Nat} {d' : Drawn} {ch : List Addr} (I : Inv X pins σ H s)
  (hch : ∀ b ∈ ch, (b ∈ X.ex ∨ X.s₀.heap.objs.size ≤ b) ∧ b ≠ X.env.locals ∧ (∀ x c, X.env.cells.lookup x = some c → c ≠ b) ∧ ∀ p ∈ X.pn ++ pins, p.1 ≠ b)
  (keep : ∀ b o, b ≠ X.env.locals → b ∉ X.fs → b ∉ ch → s.heap.get? b = some o → H b = none → h'.get? b = some o)
  (slot : ∀ b o, b ≠ X.env.locals → b ∈ X.fs → b ∉ ch → s.heap.get? b = some o → H b = none → ∃ sl, h'.get? b = some { o with slots := sl }) (free : ∀ b o, b ∉ ch → s.heap.get? b = some o → H b = none → H' b = none)
  (there : ∀ b o, b ∉ ch → s.heap.get? b = some o → ∃ o', h'.get? b = some o')
  (tups : ∀ b xs, H b = some (.tup xs) → H' b = some (.tup xs)) (frzs : ∀ b o u, H b = some (.frz o u) → H' b = some (.frz o u)) (tbls : ∀ b ps, H b = some (.tbl ps) → ∃ more, H' b = some (.tbl (ps ++ more)))
  (ns : ∀ m, s.heap.Ns X.env.locals m → h'.Ns X.env.locals m) (hok : HOk X.prog X.w H' h') (hg : AllBare g') :
  Inv X pins σ H' { s with heap := h', gens := g', drawn := d', toks := t' } := by
 have neL : ∀ b o, X.s₀.heap.get? b = some o → b ≠ X.env.locals := fun b o e => Nat.ne_of_lt (Nat.lt_of_lt_of_le (Heap.lt_size e) I.ok.above)
 have neC : ∀ b o, X.s₀.heap.get? b = some o → b ∉ X.ex → b ∉ ch := fun b o e hx hb => by
  rcases (hch b hb).1 with z | z
  ·exact hx z
  ·exact absurd (Nat.lt_of_lt_of_le (Heap.lt_size e) z) (Nat.lt_irrefl _)
 have cellK : ∀ x c, X.env.cells.lookup x = some c → ∀ v, s.heap.IsCell c v → h'.IsCell c v := fun x c e v ⟨o, ho, hd⟩ => by
  have nch : c ∉ ch := fun z => (hch c z).2.2.1 x c e rfl
  by_cases hc : c ∈ X.fs
  ·obtain ⟨sl, q⟩ := slot c o (I.cne x c e) hc nch ho (I.freeC x c e)
   exact ⟨_, q, hd⟩
  ·exact ⟨o, keep c o (I.cne x c e) hc nch ho (I.freeC x c e), hd⟩
 refine ⟨I.ok, I.os, hg, ⟨fun b o e n hb hx => ?_, fun b o e n hb hx => ?_, fun b o e n hx => ?_, fun b o e hx => ?_, fun b xs e => tups b xs (I.base.tups b xs e), fun b o xs e => frzs b o xs (I.base.frzs b o xs e), fun b ps e => ?_⟩, ?_, fun x c e => ?_, ?_, fun x c e => ?_, fun p hp => ?_, hok, I.len⟩
 ·exact keep b o (neL b o e) hb (neC b o e hx) (I.base.keep b o e n hb hx) (I.base.free b o e n hx)
 ·obtain ⟨sl, e1⟩ := I.base.slot b o e n hb hx
  obtain ⟨sl', e2⟩ := slot b _ (neL b o e) hb (neC b o e hx) e1 (I.base.free b o e n hx)
  exact ⟨sl', e2⟩
 ·obtain ⟨o', e1⟩ := I.base.there b o e hx
  exact free b o' (neC b o e hx) e1 (I.base.free b o e n hx)
 ·obtain ⟨o', e1⟩ := I.base.there b o e hx
  exact there b o' (neC b o e hx) e1
 ·obtain ⟨m1, e1⟩ := I.base.tbls b ps e
  obtain ⟨m2, e2⟩ := tbls b _ e1
  exact ⟨m1 ++ m2, by rw [e2, Array.append_assoc]⟩
 ·obtain ⟨m, hn, hl⟩ := I.loc
  refine ⟨m, ns m hn, fun i x v e1 e2 e3 => ?_⟩
  obtain ⟨u, r, l⟩ := hl i x v e1 e2 e3
  refine ⟨u, r, ?_⟩
  rcases l with l | ⟨k, c, e, z⟩
  ·exact .inl l
  ·exact .inr ⟨k, c, e, cellK x c e _ z⟩
 ·obtain ⟨v, z⟩ := I.cell x c e
  exact ⟨v, cellK x c e v z⟩
 ·obtain ⟨m, ⟨o, _, _, ho, _⟩, _⟩ := I.loc
  exact free _ o (fun z => (hch _ z).2.1 rfl) ho I.free
 ·obtain ⟨v, o, ho, hd⟩ := I.cell x c e
  exact free c o (fun z => (hch c z).2.2.1 x c e rfl) ho (I.freeC x c e)
 ·obtain ⟨e, n, ne, nf, d⟩ := I.pin p hp
  have nch : p.1 ∉ ch := fun z => (hch p.1 z).2.2.2 p hp rfl
  exact ⟨keep p.1 p.2 ne nf nch e n, free p.1 p.2 nch e n, ne, nf, d⟩
theorem Inv.un {t' : Nat} (I : Inv X pins σ H s) (u : Un X.fs [] H H' s.heap h') (hok : HOk X.prog X.w H' h') : Inv X pins σ H' { s with heap := h', toks := t' } := by
 obtain ⟨m, ⟨o, es, ep, ho, r⟩, _⟩ := id I.loc
 obtain ⟨sl, hL⟩ := u.any ho I.free (by simp)
 exact I.step (g' := s.gens) (d' := s.drawn) (ch := []) (fun _ z => nomatch z) (fun b o _ hb _ e n => u.keep b o e n hb (by simp)) (fun b o _ hb _ e n => u.slot b o e n hb (by simp)) (fun b o _ e n => u.free b o e n (by simp)) (fun b o _ e => u.there b o e (by simp)) u.tups u.frzs u.tbls (fun m' hm => by
  obtain ⟨o', es', ep', ho', r'⟩ := hm
  rw [ho] at ho'; cases ho'
  exact ⟨_, es', ep', hL, r'⟩) hok I.bare
theorem Inv.call {g' : Array GenState} {t' : Nat} {d' : Drawn} {ch : List Addr} (I : Inv X pins σ H s) (u : Un (frs X.stack) ch H H' s.heap h') (hok : HOk X.prog X.w H' h') (hg : AllBare g')
  (hch : ∀ b ∈ ch, (b ∈ X.ex ∨ X.s₀.heap.objs.size ≤ b) ∧ b ≠ X.env.locals ∧ (∀ x c, X.env.cells.lookup x = some c → c ≠ b) ∧ ∀ p ∈ X.pn ++ pins, p.1 ≠ b) :
  Inv X pins σ H' { s with heap := h', gens := g', drawn := d', toks := t' } := by
 obtain ⟨m, ⟨o, es, ep, ho, r⟩, _⟩ := id I.loc
 obtain ⟨sl, hL⟩ := u.any ho I.free fun z => (hch _ z).2.1 rfl
 exact I.step (ch := ch) hch (fun b o hL hb hc e n => u.keep b o e n (fun z => (List.mem_cons.mp (I.stkSub b z)).elim hL hb) hc) (fun b o _ _ hc e n => u.any e n hc) (fun b o hc e n => u.free b o e n hc) (fun b o hc e => u.there b o e hc) u.tups u.frzs u.tbls (fun m' hm => by
  obtain ⟨o', es', ep', ho', r'⟩ := hm
  rw [ho] at ho'; cases ho'
  exact ⟨_, es', ep', hL, r'⟩) hok hg
theorem Inv.turned {t' : Nat} {it : Addr} (I : Inv X pins σ H s) (k : ∀ b o, b ≠ it → s.heap.get? b = some o → h'.get? b = some o) (hn : H it = none) (hL : it ≠ X.env.locals)
  (h1 : it ∈ X.ex ∨ X.s₀.heap.objs.size ≤ it) (h2 : ∀ x c, X.env.cells.lookup x = some c → c ≠ it) (h3 : ∀ p ∈ X.pn ++ pins, p.1 ≠ it) : Inv X pins σ H { s with heap := h', toks := t' } := by
 have nit : ∀ b u, H b = some u → b ≠ it := fun b u e z => by rw [z, hn] at e; cases e
 refine I.step (g' := s.gens) (d' := s.drawn) (ch := [it]) (fun b hb => ?_) (fun b o _ _ hc e _ => k b o (fun z => hc (by simp [z])) e) (fun b o _ _ hc e _ => ⟨o.slots, k b o (fun z => hc (by simp [z])) e⟩) (fun _ _ _ _ n => n)
  (fun b o hc e => ⟨o, k b o (fun z => hc (by simp [z])) e⟩) (fun _ _ e => e) (fun _ _ _ e => e) (fun b ps e => ⟨#[], by rw [e]; simp⟩) (fun m hm => ?_) (fun b u e => ?_) I.bare
 ·have e : b = it := by simpa using hb
  subst e
  exact ⟨h1, hL, h2, h3⟩
 ·obtain ⟨o, es, ep, ho, r⟩ := hm
  exact ⟨o, es, ep, k _ o (Ne.symm hL) ho, r⟩
 ·refine (I.hok b u e).stay (fun c v hc q => k c v ?_ q) (fun _ q => q) fun _ _ q => q
  rcases hc with z | z
  ·rw [z]; exact nit b u e
  ·exact nit c _ z
theorem Inv.tok (I : Inv X pins σ H s) (t : Nat) : Inv X pins σ H { s with toks := t } := I.un (h' := s.heap) (t' := t) Un.refl I.hok
theorem Inv.kept {t' : Nat} (I : Inv X pins σ H s) (k : ∀ b u, s.heap.get? b = some u → h'.get? b = some u) : Inv X pins σ H { s with heap := h', toks := t' } := I.un (Un.kept k) (I.hok.kept k)
theorem Inv.laid {a : Addr} {o : HO} {t' : Nat} (I : Inv X pins σ H s) (k : ∀ b u, s.heap.get? b = some u → h'.get? b = some u) (hp : s.heap.objs.size ≤ a) (new : ObjOk X.prog X.w (upd H a o) h' a o) :
  Inv X pins σ (upd H a o) { s with heap := h', toks := t' } := I.un (Un.laid k hp (I.hok.fresh hp)) (I.hok.laid k hp new)
theorem Inv.write {x e : Addr} {o : HO} {t' : Nat} (I : Inv X pins σ H s) (mu : Mut (H x)) (he : e = x ∨ H e = some (.own x)) (k : ∀ b u, b ≠ e → s.heap.get? b = some u → h'.get? b = some u) (heo : ∃ u, h'.get? e = some u)
  (new : ObjOk X.prog X.w (upd H x o) h' x o) : Inv X pins σ (upd H x o) { s with heap := h', toks := t' } := I.un (Un.write mu he k heo) (I.hok.write mu he k heo new)
theorem Inv.weak {σ' : List (Option V)} (I : Inv X pins σ H s) (hl : σ'.length = σ.length) (w : ∀ (i : Nat) v, σ'[i]? = some (some v) → σ[i]? = some (some v)) : Inv X pins σ' H s :=
 ⟨I.ok, I.os, I.bare, I.base, let ⟨m, hn, hl'⟩ := I.loc; ⟨m, hn, fun i x v e1 e2 e3 => hl' i x v e1 (w i v e2) e3⟩, I.cell, I.free, I.freeC, I.pin, I.hok, hl.trans I.len⟩
theorem Inv.pins_of {pins' : List (Addr × Obj)} (I : Inv X pins σ H s) (h : ∀ p ∈ pins', s.heap.get? p.1 = some p.2 ∧ H p.1 = none ∧ p.1 ≠ X.env.locals ∧ p.1 ∉ X.fs ∧ ∀ v, p.2.data ≠ .cell v) : Inv X pins' σ H s :=
 ⟨I.ok, I.os, I.bare, I.base, I.loc, I.cell, I.free, I.freeC, fun p hp => (List.mem_append.mp hp).elim (fun z => I.pin p (List.mem_append_left _ z)) (h p), I.hok, I.len⟩
theorem nodup_ix {N : List Str} (hN : N.Nodup) {i j : Nat} {x : Str} (a : N[i]? = some x) (b : N[j]? = some x) : i = j := by
 obtain ⟨h1, e1⟩ := List.getElem?_eq_some_iff.mp a
 obtain ⟨h2, e2⟩ := List.getElem?_eq_some_iff.mp b
 exact (List.getElem_inj hN).mp (e1.trans e2.symm)
theorem store_ok2 {M : Model} {A : Around} {E : Value → Shared → Prop} {i : Nat} {x : Str} {v : V} {u : Value} {Q : Unit → Shared → Prop} (I : Inv X pins σ H s) (hN : X.N.Nodup) (hi : X.N[i]? = some x) (hx : Loc X.env.scope x) (r : RelV v u)
  (h : ∀ s', Inv X pins (σ.set i (some v)) H s' → (∃ a, Heap.SameBut a s.heap s'.heap ∧ (a = X.env.locals ∨ X.env.cells.lookup x = some a)) → Q () s') (hf : X.fn x = true ∨ X.env.scope.names.lookup x = some .local := by first | exact .inl rfl | exact .inr rfl | assumption) : wpAny M A (storeName X.env x u) Q E s := by
 obtain ⟨m, hn, hl⟩ := id I.loc
 have hcls : (X.env.scope.kind == .class || (X.env.scope.kind == .module && X.env.locals != X.env.globals)) = false := by rw [I.ok.kind]; rfl
 have hiσ : i < σ.length := by rw [I.len]; exact (List.getElem?_eq_some_iff.mp hi).1
 have cne := I.cne
 have tracked : ∀ {a : Addr} {h' : Heap}, (∃ o, s.heap.get? a = some o ∧ H a = none) → Heap.SameBut a s.heap h' → HOk X.prog X.w H h' := fun {a h'} ha hs b ob e => by
  obtain ⟨_, _, hfree⟩ := ha
  refine (I.hok b ob e).stay (fun c w' hc q => (hs.2 c ?_).trans q) (fun _ q => q) fun _ _ q => q
  rintro rfl
  rcases hc with rfl | hc
  ·rw [hfree] at e; cases e
  ·rw [hfree] at hc; cases hc
 rcases hx with hk | hk
 ·refine wpAny_storeName_local hk hn (fun h' hn' hs => ?_) hcls
  obtain ⟨oL, _, _, hoL, _⟩ := id hn
  refine h _ ⟨I.ok, I.os, I.bare, ⟨fun b o e n hb hx => ?_, fun b o e n hb hx => ?_, I.base.free, fun b o e hx => ?_, I.base.tups, I.base.frzs, I.base.tbls⟩, ⟨_, hn', fun j y v' e1 e2 e3 => ?_⟩, fun y c e => ?_, I.free, I.freeC, fun p hp => ?_, tracked ⟨oL, hoL, I.free⟩ hs, by simpa using I.len⟩ ⟨_, hs, .inl rfl⟩
  ·exact (hs.2 b (Nat.ne_of_lt (Nat.lt_of_lt_of_le (Heap.lt_size e) I.ok.above))).trans (I.base.keep b o e n hb hx)
  ·obtain ⟨sl, e1⟩ := I.base.slot b o e n hb hx
   exact ⟨sl, (hs.2 b (Nat.ne_of_lt (Nat.lt_of_lt_of_le (Heap.lt_size e) I.ok.above))).trans e1⟩
  ·obtain ⟨o', e1⟩ := I.base.there b o e hx
   exact ⟨o', (hs.2 b (Nat.ne_of_lt (Nat.lt_of_lt_of_le (Heap.lt_size e) I.ok.above))).trans e1⟩
  ·by_cases hj : j = i
   ·subst hj
    rw [hi] at e1; cases e1
    rw [List.getElem?_set_self hiσ] at e2
    cases e2
    exact ⟨u, r, .inl ⟨hk, by simp⟩⟩
   ·rw [List.getElem?_set_ne (Ne.symm hj)] at e2
    obtain ⟨u', r', q⟩ := hl j y v' e1 e2 e3
    refine ⟨u', r', ?_⟩
    rcases q with ⟨k, e⟩ | ⟨k, c, e, z⟩
    ·refine .inl ⟨k, ?_⟩
     have : y ≠ x := fun e => hj (nodup_ix hN e1 (e ▸ hi))
     simp [this, e]
    ·exact .inr ⟨k, c, e, z.sameBut hs (cne y c e)⟩
  ·obtain ⟨w', z⟩ := I.cell y c e
   exact ⟨w', z.sameBut hs (cne y c e)⟩
  ·obtain ⟨e, n, ne, nf, d⟩ := I.pin p hp
   exact ⟨(hs.2 p.1 ne).trans e, n, ne, nf, d⟩
 ·have hfn : X.fn x = true := by
   rcases hf with z | z
   ·exact z
   ·rw [z] at hk; cases hk
  obtain ⟨c, hc⟩ := I.ok.has x (.inl hk)
  obtain ⟨w', z⟩ := I.cell x c hc
  refine wpAny_storeName_cell I.ok.kind hk hc z (fun h' hc' hs => ?_)
  obtain ⟨oc, hoc, hocd⟩ := id z
  refine h { s with heap := h' } ⟨I.ok, I.os, I.bare, ⟨fun b o e n hb hx => ?_, fun b o e n hb hx => ?_, I.base.free, fun b o e hx => ?_, I.base.tups, I.base.frzs, I.base.tbls⟩, ⟨m, hn.sameBut hs (Ne.symm (cne x c hc)), fun j y v' e1 e2 e3 => ?_⟩, fun y c' e => ?_, I.free, I.freeC, fun p hp => ?_, tracked ⟨oc, hoc, I.freeC x c hc⟩ hs, by simpa using I.len⟩ ⟨c, hs, .inr hc⟩
  ·exact (hs.2 b (Nat.ne_of_lt (Nat.lt_of_lt_of_le (Heap.lt_size e) (I.ok.cab x c hfn hc)))).trans (I.base.keep b o e n hb hx)
  ·obtain ⟨sl, e1⟩ := I.base.slot b o e n hb hx
   exact ⟨sl, (hs.2 b (Nat.ne_of_lt (Nat.lt_of_lt_of_le (Heap.lt_size e) (I.ok.cab x c hfn hc)))).trans e1⟩
  ·obtain ⟨o', e1⟩ := I.base.there b o e hx
   exact ⟨o', (hs.2 b (Nat.ne_of_lt (Nat.lt_of_lt_of_le (Heap.lt_size e) (I.ok.cab x c hfn hc)))).trans e1⟩
  ·by_cases hj : j = i
   ·subst hj
    rw [hi] at e1; cases e1
    rw [List.getElem?_set_self hiσ] at e2
    cases e2
    exact ⟨u, r, .inr ⟨.inl hk, c, hc, hc'⟩⟩
   ·rw [List.getElem?_set_ne (Ne.symm hj)] at e2
    obtain ⟨u', r', q⟩ := hl j y v' e1 e2 e3
    refine ⟨u', r', ?_⟩
    rcases q with q | ⟨k, c', e, z'⟩
    ·exact .inl q
    ·refine .inr ⟨k, c', e, z'.sameBut hs ?_⟩
     rintro rfl
     exact hj (nodup_ix hN e1 (I.ok.inj _ _ _ e hc ▸ hi))
  ·by_cases hcc : c' = c
   ·subst hcc; exact ⟨_, hc'⟩
   ·obtain ⟨w2, z2⟩ := I.cell y c' e
    exact ⟨w2, z2.sameBut hs hcc⟩
  ·obtain ⟨e, n, ne, nf, d⟩ := I.pin p hp
   refine ⟨(hs.2 p.1 ?_).trans e, n, ne, nf, d⟩
   intro q
   rw [q, hoc] at e
   have q' : oc = p.2 := Option.some.inj e
   exact d w' (by rw [← q']; exact hocd)
theorem store_ok {M : Model} {A : Around} {E : Value → Shared → Prop} {i : Nat} {x : Str} {v : V} {u : Value} {Q : Unit → Shared → Prop} (I : Inv X pins σ H s) (hN : X.N.Nodup) (hi : X.N[i]? = some x) (hx : Loc X.env.scope x) (r : RelV v u)
  (h : ∀ s', Inv X pins (σ.set i (some v)) H s' → Q () s') (hf : X.fn x = true ∨ X.env.scope.names.lookup x = some .local := by first | exact .inl rfl | exact .inr rfl | assumption) : wpAny M A (storeName X.env x u) Q E s :=
 store_ok2 I hN hi hx r (fun s' I' _ => h s' I') hf
theorem Inv.call' {s' : Shared} {ch : List Addr} (I : Inv X pins σ H s) (ho : s'.os = s.os) (u : Un (frs X.stack) ch H H' s.heap s'.heap) (hok : HOk X.prog X.w H' s'.heap) (hg : AllBare s'.gens)
  (hch : ∀ b ∈ ch, (b ∈ X.ex ∨ X.s₀.heap.objs.size ≤ b) ∧ b ≠ X.env.locals ∧ (∀ x c, X.env.cells.lookup x = some c → c ≠ b) ∧ ∀ p ∈ X.pn ++ pins, p.1 ≠ b) : Inv X pins σ H' s' := by
 obtain ⟨h', g', d', t', o'⟩ := s'
 have e : o' = s.os := ho
 subst e
 exact I.call (g' := g') (t' := t') (d' := d') u hok hg hch
end
noncomputable abbrev XK := Value → Option Addr → Hp → Prop
noncomputable abbrev St := List (Option V)
noncomputable abbrev VK := V → Hp → Prop
noncomputable abbrev TE := St → Hp → VK → Prop
noncomputable abbrev TT := St → Hp → (Bool → Hp → Prop) → Prop
noncomputable abbrev TA := St → Hp → (List V → Hp → Prop) → Prop
structure Ends where
 nx : St → Hp → Prop
 rt : VK
 bk : St → Hp → Prop := fun _ _ => False
 ct : St → Hp → Prop := fun _ _ => False
noncomputable abbrev TS := Ends → St → Hp → Prop
noncomputable def EP (X : Cx) (pins : List (Addr × Obj)) (σ : St) (Q : VK) (u : Value) (s' : Shared) : Prop := ∃ v H', Inv X pins σ H' s' ∧ RelV v u ∧ Q v H'
noncomputable def TP (X : Cx) (pins : List (Addr × Obj)) (σ : St) (Q : Bool → Hp → Prop) (b : Bool) (s' : Shared) : Prop := ∃ H', Inv X pins σ H' s' ∧ Q b H'
noncomputable def AP (X : Cx) (pins : List (Addr × Obj)) (σ : St) (Q : List V → Hp → Prop) (us : List Value) (s' : Shared) : Prop := ∃ vs H', Inv X pins σ H' s' ∧ Vals vs us ∧ Q vs H'
noncomputable def SP (X : Cx) (pins : List (Addr × Obj)) (D : Ends) (f : Flow) (s' : Shared) : Prop :=
 match f with
 | .next => ∃ σ' H', Inv X pins σ' H' s' ∧ D.nx σ' H'
 | .brk => ∃ σ' H', Inv X pins σ' H' s' ∧ D.bk σ' H'
 | .cont => ∃ σ' H', Inv X pins σ' H' s' ∧ D.ct σ' H'
 | .ret u => ∃ v σ' H', Inv X pins σ' H' s' ∧ RelV v u ∧ D.rt v H'
noncomputable def PE (X : Cx) (e : Expr) (t : TE) : Prop :=
 ∀ (pins : List (Addr × Obj)) (s : Shared) (σ : St) (H : Hp) (Q : VK), Inv X pins σ H s → t σ H Q → wpAny (model X.prog X.w) X.A (eval e X.env) (EP X pins σ Q) X.xe s
noncomputable def PT (X : Cx) (e : Expr) (t : TT) : Prop :=
 ∀ (pins : List (Addr × Obj)) (s : Shared) (σ : St) (H : Hp) (Q : Bool → Hp → Prop), Inv X pins σ H s → t σ H Q → wpAny (model X.prog X.w) X.A (isTrue e X.env (eval e X.env)) (TP X pins σ Q) X.xe s
noncomputable def PW (X : Cx) (e : Expr) (t : TT) : Prop :=
 ∀ (whole : Sem Value) (pins : List (Addr × Obj)) (s : Shared) (σ : St) (H : Hp) (Q : Bool → Hp → Prop), Inv X pins σ H s → t σ H Q → wpAny (model X.prog X.w) X.A (isTrue e X.env whole) (TP X pins σ Q) X.xe s
theorem PW.pt {X : Cx} {e : Expr} {t : TT} (h : PW X e t) : PT X e t := h _
noncomputable def PA (X : Cx) (es : List Expr) (t : TA) : Prop :=
 ∀ (pos : Pos) (pins : List (Addr × Obj)) (s : Shared) (σ : St) (H : Hp) (Q : List V → Hp → Prop), Inv X pins σ H s → t σ H Q → wpAny (model X.prog X.w) X.A (spliced (backTo pos (starEach es X.env))) (AP X pins σ Q) X.xe s
noncomputable def PS (X : Cx) (st : Stmt) (t : TS) : Prop :=
 ∀ (pins : List (Addr × Obj)) (s : Shared) (σ : St) (H : Hp) (D : Ends), Inv X pins σ H s → t D σ H → wpAny (model X.prog X.w) X.A (exec st X.env) (SP X pins D) X.xe s
noncomputable def PSs (X : Cx) (st : List Stmt) (t : TS) : Prop :=
 ∀ (pins : List (Addr × Obj)) (s : Shared) (σ : St) (H : Hp) (D : Ends), Inv X pins σ H s → t D σ H → wpAny (model X.prog X.w) X.A (execs st X.env) (SP X pins D) X.xe s
theorem thn {α : Type} {t : Sem α} {Q Q' : α → Shared → Prop} {M : Model} {A : Around} {E : Value → Shared → Prop} {s : Shared} (h : wpAny M A t Q E s) (hQ : ∀ a s, Q a s → Q' a s) : wpAny M A t Q' E s := wpAny_mono h hQ fun _ _ x => x
end L2
namespace L2
open PySem PySem.Spec PyProof.Rows
section
variable {X : Cx}
noncomputable def tVar (i : Nat) : TE := fun σ H Q => ∃ v, σ[i]? = some (some v) ∧ Q v H
noncomputable def tC (v : V) : TE := fun _ H Q => Q v H
theorem pe_var {i : Nat} {x : Str} {pos : Pos} (hN : X.N[i]? = some x) (hv : Vis X.env.scope x) (hd : (x == ("__debug__" : Str)) = false := by decide) (hcd : (x == ("__classdict__" : Str)) = false := by decide) : PE X (.Name x pos) (tVar i) := by
 intro pins s σ H Q I h
 obtain ⟨v, e, h⟩ := h
 obtain ⟨m, hn, hl⟩ := I.loc
 obtain ⟨u, r, l⟩ := hl i x v hN e hv
 have fin : EP X pins σ Q u s := ⟨v, H, I, r, h⟩
 rcases l with ⟨hk, hm⟩ | ⟨hk, c, hc, hcell⟩
 ·exact wpAny_Name (wpAny_loadName_local I.ok.kind hk hn hm fin) hd
 ·rcases hk with hk | hk
  ·exact wpAny_Name (wpAny_loadName_cell I.ok.kind hk hc hcell fin) hd
  ·exact wpAny_Name (wpAny_loadName_free I.ok.kind hk hc hcell fin hcd) hd
theorem pe_int {i j pos} : PE X (.Constant (.int i) j pos) (tC (.int i)) := fun _ _ _ H _ I h => wpAny_Constant_int ⟨.int i, H, I.tok _, ⟨_, rfl⟩, h⟩
theorem pe_bl {b j pos} : PE X (.Constant (.bool b) j pos) (tC (.bl b)) := fun _ _ _ H _ I h => Constant_bool ⟨.bl b, H, I, rfl, h⟩
theorem pe_non {j pos} : PE X (.Constant .none j pos) (tC .non) := fun _ _ _ H _ I h => Constant_none ⟨.non, H, I, rfl, h⟩
noncomputable def Gl (X : Cx) (x : Str) : Prop := X.env.kindOf x = some .globalImplicit
theorem ld_glob {E : Value → Shared → Prop} {pins : List (Addr × Obj)} {s : Shared} {σ : St} {H : Hp} {x : Str} {u : Value} {pos : Pos} {Q : Value → Shared → Prop} (I : Inv X pins σ H s) (hg : Gl X x) (hm : X.mg x = some u) (h : Q u s)
  (hd : (x == ("__debug__" : Str)) = false := by decide) : wpAny (model X.prog X.w) X.A (eval (.Name x pos) X.env) Q E s :=
 Calls.Name_function_global I.ok.kind hg (Calls.loadGlobal_global (by rw [I.ok.glob]; exact I.mod.glob.keeps I.bk) hm h) hd
theorem ld_blt {E : Value → Shared → Prop} {pins : List (Addr × Obj)} {s : Shared} {σ : St} {H : Hp} {x : Str} {u : Value} {pos : Pos} {Q : Value → Shared → Prop} (I : Inv X pins σ H s) (hg : Gl X x) (hm : X.mg x = none) (hv : bootBuiltins x = some u) (h : Q u s)
  (hn : x ≠ "__name__" := by decide) (hd : (x == ("__debug__" : Str)) = false := by decide) : wpAny (model X.prog X.w) X.A (eval (.Name x pos) X.env) Q E s := by
 obtain ⟨mb, h1, h2⟩ := I.mod.blt
 exact Calls.Name_function_global I.ok.kind hg (Calls.loadGlobal_builtin (by rw [I.ok.glob]; exact I.mod.glob.keeps I.bk) hm (by rw [I.ok.blt]; exact h1.keeps I.bk) ((h2 x hn).trans hv) h) hd
theorem pe_glob {x : Str} {v : V} {u : Value} {pos : Pos} (hg : Gl X x) (hm : X.mg x = some u) (r : RelV v u) (hd : (x == ("__debug__" : Str)) = false := by decide) : PE X (.Name x pos) (tC v) :=
 fun _ _ _ H _ I h => ld_glob I hg hm ⟨v, H, I, r, h⟩ hd
theorem pe_bltn {x : Str} {v : V} {u : Value} {pos : Pos} (hg : Gl X x) (hm : X.mg x = none) (hv : bootBuiltins x = some u) (r : RelV v u) (hn : x ≠ "__name__" := by decide) (hd : (x == ("__debug__" : Str)) = false := by decide) : PE X (.Name x pos) (tC v) :=
 fun _ _ _ H _ I h => ld_blt I hg hm hv ⟨v, H, I, r, h⟩ hn hd
variable {a b : Expr} {ta tb : TE} {pos : Pos}
noncomputable def PC (X : Cx) (op : CmpOp) (a b : Expr) (t : TE) : Prop :=
 ∀ (pins : List (Addr × Obj)) (s : Shared) (σ : St) (H : Hp) (Q : VK), Inv X pins σ H s → t σ H Q →
  wpAny (model X.prog X.w) X.A (eval a X.env) (fun v s₁ => wpAny (model X.prog X.w) X.A (eval b X.env) (fun u s₂ => wpAny (model X.prog X.w) X.A (compareOp op v u) (EP X pins σ Q) X.xe s₂) X.xe s₁) X.xe s
theorem nobehind (b : Expr) {op : CmpOp} (h : op ≠ .In) (h2 : op ≠ .NotIn) : behindInMarks op b = false := by
 have e1 : (op == CmpOp.In) = false := by cases op <;> first | rfl | exact absurd rfl h
 have e2 : (op == CmpOp.NotIn) = false := by cases op <;> first | rfl | exact absurd rfl h2
 cases b <;> simp [behindInMarks, e1, e2]
noncomputable def tIsN (ta : TE) : TE := fun σ H Q => ta σ H fun x H1 => Q (.bl (decide (x = .non))) H1
noncomputable def tNotN (ta : TE) : TE := fun σ H Q => ta σ H fun x H1 => Q (.bl (!decide (x = .non))) H1
theorem RelV.none_iff {x : V} {v : Value} (r : RelV x v) : (v == Value.none) = decide (x = .non) := by
 cases x with
 | non => cases r; rfl
 | bl _ => cases r; rfl
 | int _ => obtain ⟨t, rfl⟩ := r; rfl
 | str _ => obtain ⟨t, rfl⟩ := r; rfl
 | byt _ => obtain ⟨t, rfl⟩ := r; rfl
 | flt _ => obtain ⟨t, rfl⟩ := r; rfl
 | ref _ => cases r; rfl
 | ty _ => cases r; rfl
theorem pc_isN {j pos'} (ha : PE X a ta) : PC X .Is a (.Constant .none j pos') (tIsN ta) := by
 intro pins s σ H Q I h
 refine thn (ha pins s σ H _ I h) fun v s1 ⟨x, H1, I1, r1, q1⟩ => ?_
 exact Constant_none (is_none_gen ⟨.bl _, H1, I1, by rw [r1.none_iff]; rfl, q1⟩)
theorem pc_notN {j pos'} (ha : PE X a ta) : PC X .IsNot a (.Constant .none j pos') (tNotN ta) := by
 intro pins s σ H Q I h
 refine thn (ha pins s σ H _ I h) fun v s1 ⟨x, H1, I1, r1, q1⟩ => ?_
 exact Constant_none (isnot_none_gen ⟨.bl _, H1, I1, by rw [r1.none_iff]; rfl, q1⟩)
noncomputable def tB (t : TE) : TT := fun σ H Q => t σ H fun x H1 => ∃ c, x = .bl c ∧ Q c H1
theorem pt_cmp {op : CmpOp} {t : TE} (h : PC X op a b t) (h1 : behindInMarks op b = false := by first | exact nobehind _ (by decide) (by decide) | rfl) : PT X (.Compare a [op] [b] pos) (tB t) := by
 intro pins s σ H Q I hw
 refine wpAny_isTrue_Compare1 (thn (h pins s σ H _ I hw) fun v s1 h1 => thn h1 fun u s2 h2 => thn h2 fun c s3 ⟨x, H1, I1, r1, q1⟩ => ?_) h1
 obtain ⟨d, rfl, q⟩ := q1
 cases r1
 exact wpAny_truthy_bool ⟨H1, I1, q⟩
variable {tA tB' : TT} {rest : List Expr}
noncomputable def tAnd (t u : TT) : TT := fun σ H Q => t σ H fun c H1 => if c = true then u σ H1 Q else Q false H1
noncomputable def tOr (t u : TT) : TT := fun σ H Q => t σ H fun c H1 => if c = true then Q true H1 else u σ H1 Q
noncomputable def tNot (t : TT) : TT := fun σ H Q => t σ H fun c H1 => Q (!c) H1
theorem pw_and1 (ha : PT X a tA) : PW X (.BoolOp .And [a] pos) tA := by
 intro wh pins s σ H Q I h
 refine isTrue_and (thn (ha pins s σ H Q I h) fun c s1 e => ?_)
 cases c with
 | true => exact isTrue_and_nil e
 | false => exact e
theorem pw_or1 (ha : PT X a tA) : PW X (.BoolOp .Or [a] pos) tA := by
 intro wh pins s σ H Q I h
 refine isTrue_or (thn (ha pins s σ H Q I h) fun c s1 e => ?_)
 cases c with
 | false => exact isTrue_or_nil e
 | true => exact e
theorem pw_and (ha : PT X a tA) (hb : PW X (.BoolOp .And (b :: rest) pos) tB') : PW X (.BoolOp .And (a :: b :: rest) pos) (tAnd tA tB') := by
 intro wh pins s σ H Q I h
 refine isTrue_and (thn (ha pins s σ H _ I h) fun c s1 ⟨H1, I1, q1⟩ => ?_)
 cases c with
 | true => exact hb wh pins s1 σ H1 Q I1 q1
 | false => exact ⟨H1, I1, q1⟩
theorem pw_or (ha : PT X a tA) (hb : PW X (.BoolOp .Or (b :: rest) pos) tB') : PW X (.BoolOp .Or (a :: b :: rest) pos) (tOr tA tB') := by
 intro wh pins s σ H Q I h
 refine isTrue_or (thn (ha pins s σ H _ I h) fun c s1 ⟨H1, I1, q1⟩ => ?_)
 cases c with
 | true => exact ⟨H1, I1, q1⟩
 | false => exact hb wh pins s1 σ H1 Q I1 q1
theorem pt_not (ha : PT X a tA) : PT X (.UnaryOp .Not a pos) (tNot tA) := by
 intro pins s σ H Q I h
 exact isTrue_not (ha pins s σ H (fun c H1 => Q (!c) H1) I h)
noncomputable def tAndV (ta tb : TE) : TE := fun σ H Q => ta σ H fun x H1 => ∃ c, x = .bl c ∧ if c = true then tb σ H1 Q else Q (.bl false) H1
noncomputable def tOrV (ta tb : TE) : TE := fun σ H Q => ta σ H fun x H1 => ∃ c, x = .bl c ∧ if c = true then Q (.bl true) H1 else tb σ H1 Q
noncomputable def tNotV (ta : TE) : TE := fun σ H Q => ta σ H fun x H1 => ∃ c, x = .bl c ∧ Q (.bl (!c)) H1
theorem pe_one {op} {t : TE} (h : PE X a t) : PE X (.BoolOp op [a] pos) t := fun pins s σ H Q I hw => BoolOp_one (h pins s σ H Q I hw)
theorem pe_and (ha : PE X a ta) (hb : PE X (.BoolOp .And (b :: rest) pos) tb) : PE X (.BoolOp .And (a :: b :: rest) pos) (tAndV ta tb) := by
 intro pins s σ H Q I h
 refine BoolOp_and (thn (ha pins s σ H _ I h) fun v s1 ⟨x, H1, I1, r1, q1⟩ => ?_)
 obtain ⟨c, rfl, q1⟩ := q1
 cases r1
 refine wpAny_truthy_bool ?_
 cases c with
 | true => exact hb pins s1 σ H1 Q I1 q1
 | false => exact ⟨.bl false, H1, I1, rfl, q1⟩
theorem pe_or (ha : PE X a ta) (hb : PE X (.BoolOp .Or (b :: rest) pos) tb) : PE X (.BoolOp .Or (a :: b :: rest) pos) (tOrV ta tb) := by
 intro pins s σ H Q I h
 refine BoolOp_or (thn (ha pins s σ H _ I h) fun v s1 ⟨x, H1, I1, r1, q1⟩ => ?_)
 obtain ⟨c, rfl, q1⟩ := q1
 cases r1
 refine wpAny_truthy_bool ?_
 cases c with
 | false => exact hb pins s1 σ H1 Q I1 q1
 | true => exact ⟨.bl true, H1, I1, rfl, q1⟩
noncomputable def tIf (t : TT) (ta tb : TE) : TE := fun σ H Q => t σ H fun c H1 => if c = true then ta σ H1 Q else tb σ H1 Q
end
end L2
namespace L2
open PySem PySem.Spec PyProof.Rows
noncomputable def SqL (K : PySem.W.Frag) (H : Hp) (a : Addr) (xs : List V) : Prop :=
 Rd H a (.lst xs) ∨
  ∃ (o : Obj) (its : Array Value) (n : Nat), K.lookup a = some o ∧ o.cls = .type "list" ∧ o.dict = none ∧ o.data = .seq its n ∧ its.size ≤ sizeLine ∧ Vals xs its.toList
noncomputable def SqT (K : PySem.W.Frag) (H : Hp) (a : Addr) (xs : List V) : Prop :=
 Rd H a (.tup xs) ∨
  ∃ (o : Obj) (its : Array Value) (n : Nat), K.lookup a = some o ∧ o.cls = .type "tuple" ∧ o.data = .seq its n ∧ its.size ≤ sizeLine ∧ Vals xs its.toList
noncomputable def absV : Value → Option V
 | .none => some .non
 | .bool b => some (.bl b)
 | .int i _ => some (.int i)
 | .str x _ => some (.str x)
 | .bytes b _ => some (.byt b)
 | .float b _ => some (.flt b)
 | .ref a => some (.ref a)
 | .type n => some (.ty n)
 | _ => none
theorem RelV.abs {x : V} {u : Value} (r : RelV x u) : absV u = some x := by
 cases x with
 | non => cases r; rfl
 | bl _ => cases r; rfl
 | int _ => obtain ⟨t, rfl⟩ := r; rfl
 | str _ => obtain ⟨t, rfl⟩ := r; rfl
 | byt _ => obtain ⟨t, rfl⟩ := r; rfl
 | flt _ => obtain ⟨t, rfl⟩ := r; rfl
 | ref _ => cases r; rfl
 | ty _ => cases r; rfl
theorem RelV.inj {x y : V} {u : Value} (r : RelV x u) (q : RelV y u) : x = y := Option.some.inj (r.abs.symm.trans q.abs)
theorem Vals.inj : ∀ {xs ys : List V} {us : List Value}, Vals xs us → Vals ys us → xs = ys
 | _, _, _, .nil, .nil => rfl
 | _, _, _, .cons r t, .cons r' t' => by rw [r.inj r', Vals.inj t t']
section
variable {X : Cx} {pins : List (Addr × Obj)} {σ : St} {H : Hp} {s : Shared} {a : Addr} {xs ys : List V}
theorem SqL.of {K : PySem.W.Frag} (h : H a = some (.lst xs)) : SqL K H a xs := .inl (.inl h)
theorem SqT.of {K : PySem.W.Frag} (h : H a = some (.tup xs)) : SqT K H a xs := .inl (.inl h)
theorem Inv.list (I : Inv X pins σ H s) (h : SqL X.K H a xs) : ∃ its : List Value, Vals xs its ∧ PlainL s.heap a its.toArray ∧ xs.length ≤ sizeLine := by
 rcases h with h | ⟨o, its, n, hk, hc, hd, hs, hz, r⟩
 ·obtain ⟨z, its, n, r, e⟩ := h.ok I.hok
  exact ⟨its, r, ⟨_, n, e, rfl, rfl, rfl⟩, z⟩
 ·refine ⟨its.toList, r, ⟨o, n, I.kIn a o hk, hc, hd, by simpa using hs⟩, ?_⟩
  have e := r.length
  simp only [Array.length_toList] at e
  omega
theorem Inv.tuple (I : Inv X pins σ H s) (h : SqT X.K H a xs) : ∃ its : List Value, Vals xs its ∧ IsTup s.heap a its.toArray ∧ xs.length ≤ sizeLine := by
 rcases h with h | ⟨o, its, n, hk, hc, hs, hz, r⟩
 ·obtain ⟨z, its, r, p⟩ := h.ok I.hok
  exact ⟨its, r, p, z⟩
 ·refine ⟨its.toList, r, ⟨o, I.kIn a o hk, hc, n, by simpa using hs⟩, ?_⟩
  have e := r.length
  simp only [Array.length_toList] at e
  omega
theorem Inv.list_inj (I : Inv X pins σ H s) (h : SqL X.K H a xs) (h' : SqL X.K H a ys) : xs = ys := by
 obtain ⟨its, r, ⟨o, n, e, _, _, d⟩, _⟩ := I.list h
 obtain ⟨its', r', ⟨o', n', e', _, _, d'⟩, _⟩ := I.list h'
 rw [e] at e'; cases e'
 rw [d] at d'
 injection d' with d1 _
 have : its = its' := by simpa using congrArg Array.toList d1
 subst this
 exact r.inj r'
end
noncomputable abbrev Cx.wish (X : Cx) (E : Value → Shared → Prop) : Cx := { X with xe := E }
noncomputable abbrev Cx.nox (X : Cx) : Cx := X.wish fun _ _ => False
theorem Cx.Ok.wish {X : Cx} (ok : X.Ok) (E : Value → Shared → Prop) : (X.wish E).Ok :=
 ⟨ok.mod, ok.kind, ok.glob, ok.blt, ok.above, ok.inj, ok.has, ok.cab, ok.hd, ok.frames, ok.stk, ok.exf, ok.bs, ok.bsz, ok.noex, ok.exfs, ok.funs, ok.frf⟩
theorem Cx.Ok.unwish {X : Cx} {E : Value → Shared → Prop} (ok : (X.wish E).Ok) : X.Ok :=
 ⟨ok.mod, ok.kind, ok.glob, ok.blt, ok.above, ok.inj, ok.has, ok.cab, ok.hd, ok.frames, ok.stk, ok.exf, ok.bs, ok.bsz, ok.noex, ok.exfs, ok.funs, ok.frf⟩
section
variable {X : Cx} {pins : List (Addr × Obj)} {σ : St} {H : Hp} {s : Shared} {E : Value → Shared → Prop}
theorem Inv.wish (I : Inv X pins σ H s) (E : Value → Shared → Prop) : Inv (X.wish E) pins σ H s := ⟨I.ok.wish E, I.os, I.bare, I.base, I.loc, I.cell, I.free, I.freeC, I.pin, I.hok, I.len⟩
theorem Inv.unwish (I : Inv (X.wish E) pins σ H s) : Inv X pins σ H s := ⟨I.ok.unwish, I.os, I.bare, I.base, I.loc, I.cell, I.free, I.freeC, I.pin, I.hok, I.len⟩
theorem SP.unwish {D : Ends} {f : Flow} {s' : Shared} (h : SP (X.wish E) pins D f s') : SP X pins D f s' := by
 cases f with
 | next => obtain ⟨σ', H', I, q⟩ := h; exact ⟨σ', H', I.unwish, q⟩
 | brk => obtain ⟨σ', H', I, q⟩ := h; exact ⟨σ', H', I.unwish, q⟩
 | cont => obtain ⟨σ', H', I, q⟩ := h; exact ⟨σ', H', I.unwish, q⟩
 | ret u => obtain ⟨v, σ', H', I, r, q⟩ := h; exact ⟨v, σ', H', I.unwish, r, q⟩
theorem PE.nox {e : Expr} {t : TE} (h : PE X.nox e t) : PE X e t := fun pins s σ H Q I hw =>
 wpAny_mono (h pins s σ H Q (I.wish _) hw) (fun _ _ ⟨v, H', I', r, q⟩ => ⟨v, H', I'.unwish, r, q⟩) fun _ _ z => False.elim z
theorem PT.nox {e : Expr} {t : TT} (h : PT X.nox e t) : PT X e t := fun pins s σ H Q I hw =>
 wpAny_mono (h pins s σ H Q (I.wish _) hw) (fun _ _ ⟨H', I', q⟩ => ⟨H', I'.unwish, q⟩) fun _ _ z => False.elim z
theorem PSs.nox {st : List Stmt} {t : TS} (h : PSs X.nox st t) : PSs X st t := fun pins s σ H D I hw =>
 wpAny_mono (h pins s σ H D (I.wish _) hw) (fun _ _ q => q.unwish) fun _ _ z => False.elim z
end
section
variable {X : Cx} {st : Stmt} {rest : List Stmt} {t u : TS} {e : Expr} {te : TE} {pos : Pos}
noncomputable def tNext : TS := fun D σ H => D.nx σ H
noncomputable def tSeq (t u : TS) : TS := fun D σ H => t { D with nx := u D } σ H
theorem pss_nil : PSs X [] tNext := fun _ _ σ H _ I h => wpAny_execs_nil ⟨σ, H, I, h⟩
theorem pss_cons (h1 : PS X st t) (h2 : PSs X rest u) : PSs X (st :: rest) (tSeq t u) := by
 intro pins s σ H D I h
 refine wpAny_execs_cons (thn (h1 pins s σ H { D with nx := u D } I h) fun f s1 q => ?_)
 cases f with
 | next =>
  obtain ⟨σ', H', I', q⟩ := q
  exact h2 pins s1 σ' H' D I' q
 | ret v => exact q
 | brk => exact q
 | cont => exact q
theorem pss_one (h1 : PS X st t) : PSs X [st] t := by
 intro pins s σ H D I h
 refine wpAny_execs_cons (thn (h1 pins s σ H D I h) fun f s1 q => ?_)
 cases f with
 | next => exact wpAny_execs_nil q
 | ret v => exact q
 | brk => exact q
 | cont => exact q
noncomputable def tCont : TS := fun D σ H => D.ct σ H
theorem ps_continue : PS X (.Continue pos) tCont := fun _ _ σ H _ I h => wpAny_Continue ⟨σ, H, I, h⟩
theorem Inv.quiet {pins : List (Addr × Obj)} {σ : St} {H : Hp} {s : Shared} (I : Inv X pins σ H s) : interactive X.env = false := by simp [interactive, I.ok.kind]
noncomputable def tDrop (te : TE) : TS := fun D σ H => te σ H fun _ H1 => D.nx σ H1
theorem ps_expr (he : PE X e te) (hs : swapsWith e none pos.line X.env = pure false := by rfl) : PS X (.Expr e pos) (tDrop te) := by
 intro pins s σ H D I h
 exact wpAny_Expr_any (thn (he pins s σ H _ I h) fun v s1 ⟨x, H1, I1, r1, q1⟩ => ⟨σ, H1, I1, q1⟩) I.quiet hs
noncomputable def tRet (te : TE) : TS := fun D σ H => te σ H D.rt
theorem ps_ret (he : PE X e te) : PS X (.Return (some e) pos) (tRet te) := by
 intro pins s σ H D I h
 exact wpAny_Return_some (thn (he pins s σ H _ I h) fun v s1 ⟨x, H1, I1, r1, q1⟩ => ⟨x, σ, H1, I1, r1, q1⟩)
noncomputable def tRetN : TS := fun D _ H => D.rt .non H
noncomputable def tIfS (c : TT) (t u : TS) : TS := fun D σ H => c σ H fun b H1 => if b = true then t D σ H1 else u D σ H1
theorem ps_if {c : Expr} {a b : List Stmt} {tc : TT} (hc : PT X c tc) (ha : PSs X a t) (hb : PSs X b u) : PS X (.If c a b pos) (tIfS tc t u) := by
 intro pins s σ H D I h
 refine wpAny_If (thn (hc pins s σ H _ I h) fun d s1 ⟨H1, I1, q1⟩ => ?_)
 cases d with
 | true => exact ha pins s1 σ H1 D I1 q1
 | false => exact hb pins s1 σ H1 D I1 q1
noncomputable def tNever : TS := fun _ _ _ => False
theorem ps_never : PS X st tNever := fun _ _ _ _ _ _ h => h.elim
end
noncomputable abbrev TG := V → St → Hp → (St → Hp → Prop) → Prop
noncomputable abbrev TGs := List V → St → Hp → (St → Hp → Prop) → Prop
noncomputable def PG (X : Cx) (target : Expr) (t : TG) : Prop :=
 ∀ (pins : List (Addr × Obj)) (s : Shared) (σ : St) (H : Hp) (v : V) (u : Value) (Q : St → Hp → Prop), Inv X pins σ H s → RelV v u → t v σ H Q →
  wpAny (model X.prog X.w) X.A (assign target X.env u) (fun _ s' => ∃ σ' H', Inv X pins σ' H' s' ∧ Q σ' H') X.xe s
noncomputable def PGs (X : Cx) (ts : List Expr) (t : TGs) : Prop :=
 ∀ (pins : List (Addr × Obj)) (s : Shared) (σ : St) (H : Hp) (vs : List V) (us : List Value) (Q : St → Hp → Prop), Inv X pins σ H s → Vals vs us → t vs σ H Q →
  wpAny (model X.prog X.w) X.A (assignInOrder ((assignEach ts X.env).map (·.2)) us) (fun _ s' => ∃ σ' H', Inv X pins σ' H' s' ∧ Q σ' H') X.xe s
noncomputable abbrev TSet := V → V → V → Hp → (Hp → Prop) → Prop
noncomputable def PSet (X : Cx) (t : TSet) : Prop :=
 ∀ (pins : List (Addr × Obj)) (s : Shared) (σ : St) (H : Hp) (o i v : V) (ov iv u : Value) (Q : Hp → Prop), Inv X pins σ H s → RelV o ov → RelV i iv → RelV v u → t o i v H Q →
  wpAny (model X.prog X.w) X.A (setItem ov iv u) (fun _ s' => ∃ H', Inv X pins σ H' s' ∧ Q H') X.xe s
section
variable {X : Cx} {pos : Pos}
noncomputable def gName (i : Nat) : TG := fun v σ H Q => Q (σ.set i (some v)) H
theorem pg_name {i : Nat} {x : Str} (hN : X.N.Nodup) (hi : X.N[i]? = some x) (hx : Loc X.env.scope x) (hf : X.fn x = true ∨ X.env.scope.names.lookup x = some .local := by first | exact .inl rfl | exact .inr rfl | assumption) : PG X (.Name x pos) (gName i) := by
 intro pins s σ H v u Q I r h
 exact wpAny_assign_Name (store_ok I hN hi hx r (fun s' I' => ⟨_, H, I', h⟩) hf)
noncomputable def gNil : TGs := fun vs σ H Q => vs = [] ∧ Q σ H
noncomputable def gCons (t : TG) (u : TGs) : TGs := fun vs σ H Q => ∃ v r, vs = v :: r ∧ t v σ H fun σ' H' => u r σ' H' Q
theorem pgs_nil : PGs X [] gNil := by
 intro pins s σ H vs us Q I r h
 obtain ⟨e, h⟩ := h
 subst e
 cases r
 exact assignInOrder_nil ⟨σ, H, I, h⟩
theorem pgs_cons {e : Expr} {es : List Expr} {t : TG} {u : TGs} (h1 : PG X e t) (h2 : PGs X es u)
  (hs : (assignEach (e :: es) X.env).map (·.2) = assign e X.env :: (assignEach es X.env).map (·.2) := by rfl) : PGs X (e :: es) (gCons t u) := by
 intro pins s σ H vs us Q I r h
 obtain ⟨v, vr, e1, h⟩ := h
 subst e1
 cases r with
 | cons r rr =>
  rw [hs]
  refine assignInOrder_cons (thn (h1 pins s σ H _ _ _ I r h) fun _ s1 ⟨σ1, H1, I1, q1⟩ => ?_)
  exact h2 pins s1 σ1 H1 _ _ Q I1 rr q1
noncomputable def gTup (K : PySem.W.Frag) (n : Nat) (t : TGs) : TG := fun v σ H Q => ∃ a xs, v = .ref a ∧ SqT K H a xs ∧ xs.length = n ∧ t xs σ H Q
theorem pg_tup {es : List Expr} {k : Nat} {t : TGs} {n : Nat} (hc : X.calm = true) (h : PGs X es t)
  (hn : (assignEach es X.env).length = n := by rfl) (hst : (assignEach es X.env).findIdx? (·.1) = none := by rfl) : PG X (.Tuple es k pos) (gTup X.K n t) := by
 intro pins s σ H v u Q I r hw
 obtain ⟨a, xs, e1, hq, hl, hw⟩ := hw
 subst e1
 cases r
 obtain ⟨its, rv, ht, hz⟩ := I.tuple hq
 refine assign_Tuple_tuple (I.ok.hd hc) ht (by simp [hn, ← hl, rv.length]) hst fun h' hx => ?_
 have I1 : Inv X pins σ H { s with heap := h' } := I.kept (t' := s.toks) fun b o e => hx b o (Nat.ne_of_lt (Heap.lt_size e)) e
 exact h pins _ σ H xs _ Q I1 (by simpa using rv) hw
noncomputable def gSub (to ti : TE) (t : TSet) : TG := fun v σ H Q => to σ H fun o H1 => ti σ H1 fun i H2 => t o i v H2 fun H3 => Q σ H3
theorem pg_sub {o i : Expr} {to ti : TE} {t : TSet} (ho : PE X o to) (hi : PE X i ti) (hs : PSet X t)
  (ha : ∀ v, assign (.Subscript o i pos) X.env v = (do
   let ov ← holding [v] (eval o X.env)
   let iv ← holding [v, ov] (eval i X.env)
   standAt pos
   holding [v, ov, iv] (setItem ov iv v)
   release [v, ov, iv] []) := by intro _; rfl) : PG X (.Subscript o i pos) (gSub to ti t) := by
 intro pins s σ H v u Q I r h
 rw [ha]
 refine wpAny_bind (wpAny_holding (thn (ho pins s σ H _ I h) fun ov s1 ⟨x, H1, I1, r1, q1⟩ => ?_))
 refine wpAny_bind (wpAny_holding (thn (hi pins s1 σ H1 _ I1 q1) fun iv s2 ⟨y, H2, I2, r2, q2⟩ => ?_))
 refine wpAny_bind (wpAny_standAt (wpAny_bind (wpAny_holding (thn (hs pins s2 σ H2 x y v ov iv u _ I2 r1 r2 r q2) fun _ s3 ⟨H3, I3, q3⟩ => ?_))))
 exact wpAny_release ⟨σ, H3, I3, q3⟩
noncomputable def tAsg (te : TE) (g : TG) : TS := fun D σ H => te σ H fun x H1 => g x σ H1 D.nx
theorem ps_asg {tg e : Expr} {te : TE} {g : TG} (he : PE X e te) (hg : PG X tg g) (hs : swapsWithSole [tg] e pos.line X.env = pure false := by rfl) (hw : swappedStores [tg] e X.env = pure none := by rfl)
  (h1 : (assignEach [tg] X.env).map (·.2) = [assign tg X.env] := by rfl) : PS X (.Assign [tg] e pos) (tAsg te g) := by
 intro pins s σ H D I h
 refine wpAny_Assign_stores (thn (he pins s σ H _ I h) fun v s1 ⟨x, H1, I1, r1, q1⟩ => ?_) hs hw
 rw [h1]
 exact thn (hg pins s1 σ H1 x v _ I1 r1 q1) fun _ s2 q => q
theorem ps_set {i : Nat} {x : Str} {e : Expr} {te : TE} {pos' : Pos} (hN : X.N.Nodup) (hi : X.N[i]? = some x) (hx : Loc X.env.scope x) (he : PE X e te) (hs : swapsWith e (some (.Name x pos')) pos.line X.env = pure false := by rfl) (hf : X.fn x = true ∨ X.env.scope.names.lookup x = some .local := by first | exact .inl rfl | exact .inr rfl | assumption) :
  PS X (.Assign [.Name x pos'] e pos) (tAsg te (gName i)) := by
 intro pins s σ H D I h
 refine wpAny_Assign_Name (thn (he pins s σ H _ I h) fun v s1 ⟨y, H1, I1, r1, q1⟩ => ?_) hs
 exact store_ok I1 hN hi hx r1 (fun s2 I2 => ⟨_, H1, I2, q1⟩) hf
noncomputable def tPar (i j : Nat) (ta : TA) : TS := fun D σ H => ta σ H fun vs H1 => ∃ v w, vs = [v, w] ∧ D.nx ((σ.set i (some v)).set j (some w)) H1
theorem ps_par {i j : Nat} {x y : Str} {a b : Expr} {ta : TA} {px py pt : Pos} {kt k2 pt2} (hc : X.calm = true) (hN : X.N.Nodup) (hi : X.N[i]? = some x) (hj : X.N[j]? = some y) (hij : i ≠ j)
  (hx : X.env.scope.names.lookup x = some .local) (hy : X.env.scope.names.lookup y = some .local) (ha : PA X [a, b] ta)
  (hw : swappedStores [.Tuple [.Name x px, .Name y py] kt pt] (.Tuple [a, b] k2 pt2) X.env = pure (some [x, y]))
  (hs : swapsWithSole [.Tuple [.Name x px, .Name y py] kt pt] (.Tuple [a, b] k2 pt2) pos.line X.env = pure false := by rfl) :
  PS X (.Assign [.Tuple [.Name x px, .Name y py] kt pt] (.Tuple [a, b] k2 pt2) pos) (tPar i j ta) := by
 intro pins s σ H D I h
 rw [exec_Assign_arm]
 refine wpAny_bind (wpAny_standAt ?_)
 rw [hs]
 refine wpAny_bind (wpAny_pure ?_)
 rw [if_neg (by decide)]
 refine wpAny_bind (Tuple_ (thn (ha _ pins s σ H _ I h) fun us s1 ⟨vs, H1, I1, r1, q1⟩ => ?_))
 obtain ⟨v, w, e1, q1⟩ := q1
 subst e1
 obtain ⟨u1, u2, rfl, rv, rw'⟩ : ∃ u1 u2, us = [u1, u2] ∧ RelV v u1 ∧ RelV w u2 := by
  cases r1 with
  | cons p q =>
   cases q with
   | cons p' q' =>
    cases q'
    exact ⟨_, _, rfl, p, p'⟩
 refine wpAny_newObj_type ?_ (by show 2 ≤ sizeLine; decide)
 have I2 : Inv X pins σ H1 { s1 with heap := s1.heap.push { cls := .type "tuple", data := .seq [u1, u2].toArray } } := I1.kept (t' := s1.toks) fun b o e => Heap.get?_push_of_some _ e
 rw [hw]
 refine wpAny_bind (wpAny_pure ?_)
 show wpAny (model X.prog X.w) X.A (do rule "assign.swapped-stores"; let items ← unpackItems (.ref s1.heap.objs.size) 2 none; assignInOrder [fun v => bindName X.env y v, fun v => bindName X.env x v] items.reverse; pure Flow.next) _ _ _
 refine wpAny_bind (wpAny_rule (wpAny_bind (unpackItems_tuple (items := #[u1, u2]) (I.ok.hd hc) (IsTup.new s1.heap _) fun h' hx' => ?_)))
 have I3 := I2.kept (h' := h') (t' := s1.toks) fun b o e => hx' b o (Nat.ne_of_lt (Heap.lt_size e)) e
 show wpAny _ _ (assignInOrder [fun v => bindName X.env y v, fun v => bindName X.env x v] [u2, u1] >>= fun _ => pure Flow.next) _ _ _
 refine wpAny_bind (assignInOrder_cons (wpAny_bindName (store_ok I3 hN hj (.inl hy) rw' (fun s2 I4 => ?_) (.inr hy))))
 refine assignInOrder_cons (wpAny_bindName (store_ok I4 hN hi (.inl hx) rv (fun s3 I5 => assignInOrder_nil (wpAny_pure ?_)) (.inr hx)))
 rw [List.set_comm _ _ (Ne.symm hij)] at I5
 exact ⟨_, H1, I5, q1⟩
end
section
variable {X : Cx} {pos : Pos}
noncomputable def tWhile (c : TT) (tb : TS) : TS := fun D σ H => ∃ W : Nat → St → Hp → Prop, (∃ m, W m σ H) ∧ ∀ m σ H, W m σ H →
 c σ H fun b H1 => if b = true then ∃ N : St → Hp → Prop, (∀ σ' H', N σ' H' → ∃ m', m' < m ∧ W m' σ' H') ∧ tb { D with nx := N, ct := N, bk := D.nx } σ H1 else D.nx σ H1
theorem ps_while {c : Expr} {body : List Stmt} {tc : TT} {tb : TS} (hp : PassesOwn (model X.prog X.w) X.A X.env X.xe) (hc : PT X c tc) (hb : PSs X body tb) : PS X (.While c body [] pos) (tWhile tc tb) := by
 intro pins s σ H D I h
 obtain ⟨W, ⟨m0, w0⟩, turn⟩ := h
 refine wpAny_While (codeAny_whileLoop (fun n s' => ∃ σ' H', Inv X pins σ' H' s' ∧ W n σ' H') ?_ m0 ⟨σ, H, I, w0⟩)
 rintro n s1 ⟨σ1, H1, I1, w1⟩
 refine wpAny_passesOwn hp (thn (hc pins s1 σ1 H1 _ I1 (turn n σ1 H1 w1)) fun b s2 ⟨H2, I2, q2⟩ => ?_)
 cases b with
 | true =>
  obtain ⟨N, hN, q2⟩ := q2
  rw [if_pos rfl]
  refine wpAny_passesOwn hp (thn (hb pins s2 σ1 H2 _ I2 q2) fun f s3 q3 => ?_)
  cases f with
  | next =>
   obtain ⟨σ3, H3, I3, n3⟩ := q3
   obtain ⟨m', hm, w3⟩ := hN σ3 H3 n3
   exact ⟨m', hm, σ3, H3, I3, w3⟩
  | cont =>
   obtain ⟨σ3, H3, I3, n3⟩ := q3
   obtain ⟨m', hm, w3⟩ := hN σ3 H3 n3
   exact ⟨m', hm, σ3, H3, I3, w3⟩
  | brk => exact q3
  | ret v => exact q3
 | false =>
  rw [if_neg Bool.false_ne_true]
  exact wpAny_execs_nil ⟨σ1, H2, I2, q2⟩
end
structure It where
 go : Nat → Hp → Prop
 yld : Nat → Hp → V → Hp → Prop
 stop : Nat → Hp → Prop
noncomputable def FpOk (X : Cx) (pins : List (Addr × Obj)) (H : Hp) (b : Addr) : Prop :=
 H b = none ∧ b ≠ X.env.locals ∧ b ∉ X.fs ∧ (b ∈ X.ex ∨ X.s₀.heap.objs.size ≤ b) ∧ (∀ x c, X.env.cells.lookup x = some c → c ≠ b) ∧ ∀ p ∈ X.pn ++ pins, p.1 ≠ b
theorem Inv.fpOk {X : Cx} {pins : List (Addr × Obj)} {σ : St} {H H' : Hp} {s : Shared} {b : Addr} (I : Inv X pins σ H s) (hb : s.heap.objs.size ≤ b) (hn : H' b = none) : FpOk X pins H' b := by
 refine ⟨hn, Nat.ne_of_gt (Nat.lt_of_lt_of_le I.lt hb), I.nofs hb, .inr (Nat.le_trans I.sz hb), fun x c e z => ?_, fun p hp z => ?_⟩
 ·obtain ⟨v, q⟩ := I.cell x c e
  exact absurd (Nat.lt_of_lt_of_le q.lt (by rw [z]; exact hb)) (Nat.lt_irrefl _)
 ·exact absurd (Nat.lt_of_lt_of_le (Heap.lt_size (I.pin p hp).1) (by rw [z]; exact hb)) (Nat.lt_irrefl _)
structure Turn (P : Program) (w : World) (K : PySem.W.Frag) (tg : Expr) (J : It) (fp : List Addr) (it : Addr) (tn : Nat → Heap → Prop) : Prop where
 mem : it ∈ fp
 obj : ∀ i h, tn i h → ∀ b ∈ fp, ∃ o, h.get? b = some o ∧ ∀ v, o.data ≠ .cell v
 keep : ∀ i h h', tn i h → (∀ b ∈ fp, ∀ o, h.get? b = some o → h'.get? b = some o) → tn i h'
 item : ∀ (X : Cx), X.prog = P → X.w = w → X.K = K → X.calm = true → ∀ (i : Nat) (pins : List (Addr × Obj)) (s : Shared) (σ : St) (H : Hp) (E : Value → Shared → Prop), Inv X pins σ H s → (∀ b ∈ fp, FpOk X pins H b) → tn i s.heap → J.go i H →
  wpAny (model P w) X.A (pyNext (.ref it)) (fun r s1 => ∃ u, r = some u ∧
   wpAny (model P w) X.A (letOwnedTupleGo tg (.ref it) u) (fun _ s2 => ∃ x H', Inv X pins σ H' s2 ∧ RelV x u ∧ J.yld i H x H' ∧ tn (i + 1) s2.heap ∧ ∀ b ∈ fp, H' b = none) E s1) E s
 done : ∀ (X : Cx), X.prog = P → X.w = w → X.K = K → X.calm = true → ∀ (i : Nat) (pins : List (Addr × Obj)) (s : Shared) (σ : St) (H : Hp) (E : Value → Shared → Prop), Inv X pins σ H s → (∀ b ∈ fp, FpOk X pins H b) → tn i s.heap → J.stop i H →
  wpAny (model P w) X.A (pyNext (.ref it)) (fun r s1 => r = none ∧ Inv X pins σ H s1) E s
 self : ∀ (A : Around) (i : Nat) (s : Shared) (Q : Value → Shared → Prop) (E : Value → Shared → Prop), tn i s.heap → Q (.ref it) s → wpAny (model P w) A (pyIter (.ref it)) Q E s
noncomputable abbrev TI := St → Hp → (It → Hp → Prop) → Prop
noncomputable def PIE (X : Cx) (pins : List (Addr × Obj)) (σ : St) (tg : Expr) (R : It → Hp → Prop) (itv : Value) (s2 : Shared) : Prop :=
 ∃ (it : Addr) (fp : List Addr) (tn : Nat → Heap → Prop) (J : It) (H' : Hp), itv = .ref it ∧ Inv X pins σ H' s2 ∧ Turn X.prog X.w X.K tg J fp it tn ∧ tn 0 s2.heap ∧ (∀ b ∈ fp, FpOk X pins H' b) ∧ R J H'
noncomputable def PI (X : Cx) (tg iter : Expr) (wi : TI) : Prop :=
 ∀ (pins : List (Addr × Obj)) (s : Shared) (σ : St) (H : Hp) (R : It → Hp → Prop), Inv X pins σ H s → wi σ H R →
  wpAny (model X.prog X.w) X.A (eval iter X.env) (fun v s1 => wpAny (model X.prog X.w) X.A (pyIter v) (PIE X pins σ tg R) X.xe s1) X.xe s
theorem go_of {M : Model} {A : Around} {E : Value → Shared → Prop} {s : Shared} {tg : Expr} {it : Addr} {u : Value} {o : Obj} {n : String} {vs : Array Value} {Q : Unit → Shared → Prop} (ho : s.heap.get? it = some o) (hc : o.cls = .type n) (hd : o.data = .fields vs)
  (hn : ["enumerate", "zip", "dict_itemiterator", "dict_reverseitemiterator", "odict_iterator", "itertools.zip_longest", "itertools.pairwise"].contains n = false) (hQ : Q () s) : wpAny M A (letOwnedTupleGo tg (.ref it) u) Q E s := by
 unfold letOwnedTupleGo
 cases tg <;> first
  | exact wpAny_pure hQ
  | (cases u <;> first
    | exact wpAny_pure hQ
    | (refine wpAny_bind (wpAny_load ho ?_); rw [hc, hd]; show wpAny M A (if (["enumerate", "zip", "dict_itemiterator", "dict_reverseitemiterator", "odict_iterator", "itertools.zip_longest", "itertools.pairwise"].contains n && vs[0]? == some (rawInt _)) = true then _ else _) Q E s; rw [if_neg (by intro h; rw [hn, Bool.false_and] at h; cases h)]; exact wpAny_pure hQ))
noncomputable def Itl (K : PySem.W.Frag) (a : Addr) : It :=
 ⟨fun i H => ∃ xs x, SqL K H a xs ∧ xs[i]? = some x, fun i H x H' => H' = H ∧ ∀ xs, SqL K H a xs → xs[i]? = some x, fun i H => ∃ xs, SqL K H a xs ∧ xs.length ≤ i⟩
noncomputable def Itr (lo : Int) (n : Nat) : It := ⟨fun i _ => i < n, fun i H x H' => H' = H ∧ x = .int (lo + i), fun i _ => n ≤ i⟩
theorem turn_list {P : Program} {w : World} {K : PySem.W.Frag} {tg : Expr} (a it : Addr) : Turn P w K tg (Itl K a) [it] it (fun i h => h.IsListIter it a i) where
 mem := by simp
 obj := fun i h st b hb => by
  have e : b = it := by simpa using hb
  subst e
  obtain ⟨o, e, c, d⟩ := st
  exact ⟨o, e, fun v z => by rw [d] at z; cases z⟩
 keep := fun i h h' st k => st.at fun o e => k it (by simp) o e
 item := by
  intro X hP hw hK hc i pins s σ H E I hf st hg
  subst hP hw hK
  obtain ⟨xs, x, hq, hx⟩ := hg
  obtain ⟨its, rv, p, hz⟩ := I.list hq
  obtain ⟨u, hu, ru⟩ := rv.get hx
  obtain ⟨f0, f1, f2, f3, f4, f5⟩ := hf it (by simp)
  refine wpAny_pyNext_list_item st p.isList (x := u) (by simpa using hu) fun h' st' sb => ?_
  have I1 : Inv X pins σ H { s with heap := h' } := I.turned (t' := s.toks) (fun b o hb e => (sb.2 b hb).trans e) f0 f1 f3 f4 f5
  obtain ⟨o, e, c, d⟩ := id st'
  exact ⟨u, rfl, go_of (s := { s with heap := h' }) e c d (by decide) ⟨x, H, I1, ru, ⟨rfl, fun ys hy => by rw [I.list_inj hy hq]; exact hx⟩, st', fun b hb => (hf b hb).1⟩⟩
 done := by
  intro X hP hw hK hc i pins s σ H E I hf st hg
  subst hP hw hK
  obtain ⟨xs, hq, hx⟩ := hg
  obtain ⟨its, rv, p, hz⟩ := I.list hq
  obtain ⟨f0, f1, f2, f3, f4, f5⟩ := hf it (by simp)
  have hl := rv.length
  exact wpAny_pyNext_list_end (I.ok.hd hc) st p.isList (by simp; omega) fun h' eb => ⟨rfl, I.turned (t' := s.toks) (fun b o hb e => eb b o hb e) f0 f1 f3 f4 f5⟩
 self := fun _ _ _ _ _ st h => wpAny_pyIter_listiter st h
theorem turn_range {P : Program} {w : World} {K : PySem.W.Frag} {tg : Expr} (it : Addr) (lo : Int) (n : Nat) : Turn P w K tg (Itr lo n) [it] it (fun i h => IsRangeIter h it (lo + (i : Nat) * 1) ((n : Int) - (i : Nat)) 1) where
 mem := by simp
 obj := fun i h st b hb => by
  have e : b = it := by simpa using hb
  subst e
  exact ⟨_, st, fun v z => by
   have z' : Data.fields _ = Data.cell v := z
   cases z'⟩
 keep := fun i h h' st k => k it (by simp) _ st
 item := by
  intro X hP hw hK hc i pins s σ H E I hf st hg
  subst hP hw hK
  obtain ⟨f0, f1, f2, f3, f4, f5⟩ := hf it (by simp)
  have W := Walks.range (prog := X.prog) (w := X.w) (I.ok.hd hc) it lo 1 n
  refine W.item i s _ _ hg st fun v h' tk hv st' kk => ?_
  obtain ⟨t, rfl⟩ := hv
  have I1 : Inv X pins σ H { s with heap := h', toks := tk } := I.turned (fun b o hb e => kk b o (by simpa using hb) e) f0 f1 f3 f4 f5
  refine ⟨_, rfl, go_of (s := { s with heap := h', toks := tk }) (n := "range_iterator") st' rfl rfl (by decide) ⟨.int (lo + i), H, I1, ⟨t, ?_⟩, ⟨rfl, rfl⟩, st', fun b hb => (hf b hb).1⟩⟩
  rw [Int.mul_one]
 done := by
  intro X hP hw hK hc i pins s σ H E I hf st hg
  subst hP hw hK
  obtain ⟨f0, f1, f2, f3, f4, f5⟩ := hf it (by simp)
  exact wpAny_pyNext_range_end (I.ok.hd hc) st (by have : n ≤ i := hg; omega) fun h' eb => ⟨rfl, I.turned (t' := s.toks) (fun b o hb e => eb b o hb e) f0 f1 f3 f4 f5⟩
 self := fun _ _ _ _ _ st h => wpAny_pyIter_rangeiter st h
end L2
namespace L2
open PySem PySem.Spec PyProof.Rows
section
variable {X : Cx} {tg : Expr}
noncomputable def iList (K : PySem.W.Frag) (tl : TE) : TI := fun σ H R => tl σ H fun x H1 => ∃ a, x = .ref a ∧ (∃ xs, SqL K H1 a xs) ∧ R (Itl K a) H1
theorem pi_list {l : Expr} {tl : TE} (hl : PE X l tl) : PI X tg l (iList X.K tl) := by
 intro pins s σ H R I h
 refine thn (hl pins s σ H _ I h) fun v s1 ⟨x, H1, I1, r1, q1⟩ => ?_
 obtain ⟨a, e, ⟨xs, hq⟩, q⟩ := q1
 subst e
 cases r1
 obtain ⟨its, rv, p, hz⟩ := I1.list hq
 refine wpAny_pyIter_list p.isList ?_
 refine ⟨s1.heap.objs.size, [s1.heap.objs.size], _, _, H1, rfl, I1.kept (t' := s1.toks) fun b o e => Heap.get?_push_of_some _ e, turn_list a _, ⟨_, Heap.get?_push_size _ rfl, rfl, rfl⟩, fun b hb => ?_, q⟩
 have e : b = s1.heap.objs.size := by simpa using hb
 subst e
 exact I1.fpOk (Nat.le_refl _) (I1.hok.fresh (Nat.le_refl _))
theorem range_it {pins : List (Addr × Obj)} {σ : St} {H : Hp} {s : Shared} {R : It → Hp → Prop} {E : Value → Shared → Prop} {lo hi : Int} {t u v : Tok} {tk : Nat} (I : Inv X pins σ H s) (h1 : -(2 ^ 62) ≤ lo) (h2 : lo < 2 ^ 62) (h3 : -(2 ^ 62) ≤ hi) (h4 : hi < 2 ^ 62)
  (q : R (Itr lo (hi - lo).toNat) H) : wpAny (model X.prog X.w) X.A (pyIter (.ref s.heap.objs.size)) (PIE X pins σ tg R) E { s with heap := s.heap.push { cls := .type "range", data := .fields #[.int lo t, .int hi u, .int 1 v] }, toks := tk } := by
 refine wpAny_pyIter_range (IsRange.new ..) (small_one h1 h2 h3 h4) ?_
 have I1 : Inv X pins σ H { s with heap := s.heap.push { cls := .type "range", data := .fields #[.int lo t, .int hi u, .int 1 v] }, toks := tk } := I.kept fun b o e => Heap.get?_push_of_some _ e
 refine ⟨(s.heap.push { cls := .type "range", data := .fields #[.int lo t, .int hi u, .int 1 v] }).objs.size, [(s.heap.push { cls := .type "range", data := .fields #[.int lo t, .int hi u, .int 1 v] }).objs.size], _, _, H, rfl,
  I1.kept (t' := tk) fun b o e => Heap.get?_push_of_some _ e, turn_range _ lo (hi - lo).toNat, ?_, fun b hb => ?_, q⟩
 ·have e1 : lo + ((0 : Nat) : Int) * 1 = lo := by simp
  have e2 : (((hi - lo).toNat : Nat) : Int) - ((0 : Nat) : Int) = Builtin.Range.rangeSize lo hi 1 := by rw [rangeSize_one]; split <;> omega
  show IsRangeIter _ _ (lo + ((0 : Nat) : Int) * 1) ((((hi - lo).toNat : Nat) : Int) - ((0 : Nat) : Int)) 1
  rw [e1, e2]
  exact Heap.get?_push_size _ rfl
 ·have e : b = (s.heap.push { cls := .type "range", data := .fields #[.int lo t, .int hi u, .int 1 v] }).objs.size := by simpa using hb
  subst e
  exact I1.fpOk (Nat.le_refl _) (I1.hok.fresh (Nat.le_refl _))
noncomputable def iRng1 (ta : TA) : TI := fun σ H R => ta σ H fun vs H1 => ∃ j : Int, vs = [.int j] ∧ -(2 ^ 62) ≤ j ∧ j < 2 ^ 62 ∧ R (Itr 0 j.toNat) H1
noncomputable def iRng2 (ta : TA) : TI := fun σ H R => ta σ H fun vs H1 => ∃ i j : Int, vs = [.int i, .int j] ∧ (-(2 ^ 62) ≤ i ∧ i < 2 ^ 62 ∧ -(2 ^ 62) ≤ j ∧ j < 2 ^ 62) ∧ R (Itr i (j - i).toNat) H1
theorem pi_range1 {a : Expr} {ta : TA} {p pos : Pos} (hg : Gl X "range") (hm : X.mg "range" = none) (ha : PA X [a] ta) (hs : starEach [a] X.env = [(false, eval a X.env)] := by rfl) : PI X tg (.Call (.Name "range" p) [a] [] pos) (iRng1 ta) := by
 intro pins s σ H R I h
 refine Call_ (ld_blt I hg hm boot_range (PyProof.Rows.callWith_type1 (thn (ha pos pins s σ H _ I h) fun us s1 ⟨vs, H1, I1, r1, q1⟩ => ?_) hs rfl))
 obtain ⟨j, e, q1, q2, q⟩ := q1
 subst e
 cases r1 with
 | cons r rr =>
  cases rr
  obtain ⟨t, rfl⟩ := r
  exact call_range_1 (range_it I1 (by omega) (by omega) q1 q2 (by simpa using q))
theorem pi_range2 {a b : Expr} {ta : TA} {p pos : Pos} (hg : Gl X "range") (hm : X.mg "range" = none) (ha : PA X [a, b] ta) (hs : starEach [a, b] X.env = [(false, eval a X.env), (false, eval b X.env)] := by rfl) (hs2 : starEach [b] X.env = [(false, eval b X.env)] := by rfl) :
  PI X tg (.Call (.Name "range" p) [a, b] [] pos) (iRng2 ta) := by
 intro pins s σ H R I h
 refine Call_ (ld_blt I hg hm boot_range (PyProof.Rows.callWith_type1 (thn (ha pos pins s σ H _ I h) fun us s1 ⟨vs, H1, I1, r1, q1⟩ => ?_) (by rw [hs, hs2]) (by rw [hs2]; rfl)))
 obtain ⟨i, j, e, ⟨q1, q2, q3, q4⟩, q⟩ := q1
 subst e
 cases r1 with
 | cons r rr =>
  cases rr with
  | cons r' rr =>
   cases rr
   obtain ⟨t, rfl⟩ := r
   obtain ⟨t', rfl⟩ := r'
   exact call_range_2 (range_it I1 q1 q2 q3 q4 q)
noncomputable def tFor (wi : TI) (g : TG) (tb : TS) : TS := fun D σ H => wi σ H fun J H1 => ∃ W : Nat → Nat → St → Hp → Prop, (∃ m, W 0 m σ H1) ∧ ∀ i m σ H, W i m σ H →
 (J.stop i H ∧ D.nx σ H) ∨ (J.go i H ∧ ∃ N : St → Hp → Prop, (∀ σ' H', N σ' H' → ∃ m', m' < m ∧ W (i + 1) m' σ' H') ∧ ∀ x H', J.yld i H x H' → g x σ H' fun σ2 H2 => tb { D with nx := N, ct := N, bk := D.nx } σ2 H2)
noncomputable def pinsAt (fp : List Addr) (h : Heap) : List (Addr × Obj) := fp.filterMap fun b => (h.get? b).map fun o => (b, o)
theorem mem_pinsAt {fp : List Addr} {h : Heap} {b : Addr} {o : Obj} (hb : b ∈ fp) (e : h.get? b = some o) : (b, o) ∈ pinsAt fp h := List.mem_filterMap.mpr ⟨b, hb, by rw [e]; rfl⟩
theorem of_pinsAt {fp : List Addr} {h : Heap} {p : Addr × Obj} (hp : p ∈ pinsAt fp h) : p.1 ∈ fp ∧ h.get? p.1 = some p.2 := by
 obtain ⟨b, hb, e⟩ := List.mem_filterMap.mp hp
 cases q : h.get? b with
 | none => rw [q] at e; cases e
 | some o =>
  rw [q] at e
  have e' : (b, o) = p := Option.some.inj e
  subst e'
  exact ⟨hb, q⟩
theorem Inv.pinned {pins : List (Addr × Obj)} {σ : St} {H : Hp} {s : Shared} {fp : List Addr} (I : Inv X pins σ H s) (hf : ∀ b ∈ fp, FpOk X pins H b) (ho : ∀ b ∈ fp, ∃ o, s.heap.get? b = some o ∧ ∀ v, o.data ≠ .cell v) : Inv X (pins ++ pinsAt fp s.heap) σ H s :=
 I.pins_of fun p hp => (List.mem_append.mp hp).elim (fun z => I.pin p (List.mem_append_right _ z)) fun z => by
  obtain ⟨hb, e⟩ := of_pinsAt z
  obtain ⟨f0, f1, f2, _⟩ := hf p.1 hb
  obtain ⟨o, e', d⟩ := ho p.1 hb
  rw [e] at e'; cases e'
  exact ⟨e, f0, f1, f2, d⟩
theorem Inv.unpinned {pins pl : List (Addr × Obj)} {σ : St} {H : Hp} {s : Shared} (I : Inv X (pins ++ pl) σ H s) : Inv X pins σ H s := I.pins_of fun p hp => I.pin p (List.mem_append_right _ (List.mem_append_left _ hp))
theorem ps_for {iter : Expr} {body : List Stmt} {wi : TI} {g : TG} {tb : TS} {pos : Pos} (hp : PassesOwn (model X.prog X.w) X.A X.env X.xe) (hc : X.calm = true) (hi : PI X tg iter wi) (hg : PG X tg g) (hb : PSs X body tb)
  (hs : ∀ x, foldedSetIterable iter X.env x = pure x := by intro _; rfl) : PS X (.For tg iter body [] pos) (tFor wi g tb) := by
 intro pins s σ H D I h
 refine wpAny_For (thn (hi pins s σ H _ I h) fun v s1 h1 => thn h1 fun itv s2 h2 => ?_) hs
 obtain ⟨it, fp, tn, J, H2, e, I2, T, st2, f2, W, ⟨m0, w0⟩, turn⟩ := h2
 subst e
 -- what stays true of the iterator's objects through the loop
 have stat : ∀ {H' : Hp}, (∀ b ∈ fp, H' b = none) → ∀ b ∈ fp, FpOk X pins H' b := fun hn b hb => ⟨hn b hb, (f2 b hb).2⟩
 refine codeAny_forLoop_any (fun n s' => ∃ i σ' H', Inv X pins σ' H' s' ∧ tn i s'.heap ∧ (∀ b ∈ fp, H' b = none) ∧ W i n σ' H') ?_ m0 ⟨0, σ, H2, I2, st2, fun b hb => (f2 b hb).1, w0⟩
 rintro n s3 ⟨i, σ3, H3, I3, st3, fr3, w3⟩
 rcases turn i n σ3 H3 w3 with ⟨stop, qn⟩ | ⟨go, N, hN, step⟩
 ·refine wpAny_passesOwn hp (thn (T.done X rfl rfl rfl hc i pins s3 σ3 H3 X.xe I3 (stat fr3) st3 stop) fun r s4 ⟨hr, I4⟩ => ?_)
  subst hr
  exact wpAny_execs_nil ⟨σ3, H3, I4, qn⟩
 ·refine wpAny_passesOwn hp (thn (T.item X rfl rfl rfl hc i pins s3 σ3 H3 X.xe I3 (stat fr3) st3 go) fun r s4 ⟨u, hr, h4⟩ => ?_)
  subst hr
  refine wpAny_passesOwn hp (thn h4 fun _ s5 ⟨x, H5, I5, r5, y5, st5, fr5⟩ => ?_)
  have I5' := I5.pinned (stat fr5) (T.obj _ _ st5)
  refine wpAny_passesOwn hp (thn (hg _ s5 σ3 H5 x u _ I5' r5 (step x H5 y5)) fun _ s6 ⟨σ6, H6, I6, q6⟩ => ?_)
  refine wpAny_passesOwn hp (thn (hb _ s6 σ6 H6 _ I6 q6) fun f s7 q7 => ?_)
  have again : ∀ {σ7 : St} {H7 : Hp}, Inv X (pins ++ pinsAt fp s5.heap) σ7 H7 s7 → N σ7 H7 → ∃ m, m < n ∧ ∃ i σ' H', Inv X pins σ' H' s7 ∧ tn i s7.heap ∧ (∀ b ∈ fp, H' b = none) ∧ W i m σ' H' := fun {σ7 H7} I7 n7 => by
   obtain ⟨m', hm, w7⟩ := hN σ7 H7 n7
   refine ⟨m', hm, i + 1, σ7, H7, I7.unpinned, T.keep _ _ _ st5 fun b hb o e => (I7.pin (b, o) (List.mem_append_right _ (List.mem_append_right _ (mem_pinsAt hb e)))).1, fun b hb => ?_, w7⟩
   obtain ⟨o, e, d⟩ := T.obj _ _ st5 b hb
   exact (I7.pin (b, o) (List.mem_append_right _ (List.mem_append_right _ (mem_pinsAt hb e)))).2.1
  cases f with
  | next => obtain ⟨σ7, H7, I7, n7⟩ := q7; exact again I7 n7
  | cont => obtain ⟨σ7, H7, I7, n7⟩ := q7; exact again I7 n7
  | brk => obtain ⟨σ7, H7, I7, q7⟩ := q7; exact ⟨σ7, H7, I7.unpinned, q7⟩
  | ret v => obtain ⟨x7, σ7, H7, I7, r7, q7⟩ := q7; exact ⟨x7, σ7, H7, I7.unpinned, r7, q7⟩
end
theorem for_list {K : PySem.W.Frag} {a : Addr} {xs : List V} {g : TG} {tb : TS} {D : Ends} {σ : St} {H : Hp} (Pv : Nat → St → Hp → Prop) (h0 : Pv 0 σ H) (hl : ∀ i σ H, i ≤ xs.length → Pv i σ H → SqL K H a xs)
  (hs : ∀ i x σ H, xs[i]? = some x → Pv i σ H → g x σ H fun σ2 H2 => tb { D with nx := Pv (i + 1), ct := Pv (i + 1), bk := D.nx } σ2 H2) (hd : ∀ σ H, Pv xs.length σ H → D.nx σ H) :
  ∃ W : Nat → Nat → St → Hp → Prop, (∃ m, W 0 m σ H) ∧ ∀ i m σ H, W i m σ H →
   ((Itl K a).stop i H ∧ D.nx σ H) ∨ ((Itl K a).go i H ∧ ∃ N : St → Hp → Prop, (∀ σ' H', N σ' H' → ∃ m', m' < m ∧ W (i + 1) m' σ' H') ∧ ∀ x H', (Itl K a).yld i H x H' → g x σ H' fun σ2 H2 => tb { D with nx := N, ct := N, bk := D.nx } σ2 H2) := by
 refine ⟨fun i m σ H => m = xs.length - i ∧ i ≤ xs.length ∧ Pv i σ H, ⟨xs.length, by simp, Nat.zero_le _, h0⟩, ?_⟩
 rintro i m σ H ⟨rfl, hi, p⟩
 have q := hl i σ H hi p
 by_cases hlt : i < xs.length
 ·refine .inr ⟨⟨xs, xs[i], q, by simp [hlt]⟩, Pv (i + 1), fun σ' H' p' => ⟨xs.length - (i + 1), by omega, rfl, hlt, p'⟩, fun x H' y => ?_⟩
  obtain ⟨e, y⟩ := y
  subst e
  exact hs i x σ _ (y xs q) p
 ·have e : i = xs.length := by omega
  subst e
  exact .inl ⟨⟨xs, q, Nat.le_refl _⟩, hd σ H p⟩
theorem for_range {lo : Int} {n : Nat} {g : TG} {tb : TS} {D : Ends} {σ : St} {H : Hp} (Pv : Nat → St → Hp → Prop) (h0 : Pv 0 σ H)
  (hs : ∀ i σ H, i < n → Pv i σ H → g (.int (lo + i)) σ H fun σ2 H2 => tb { D with nx := Pv (i + 1), ct := Pv (i + 1), bk := D.nx } σ2 H2) (hd : ∀ σ H, Pv n σ H → D.nx σ H) :
  ∃ W : Nat → Nat → St → Hp → Prop, (∃ m, W 0 m σ H) ∧ ∀ i m σ H, W i m σ H →
   ((Itr lo n).stop i H ∧ D.nx σ H) ∨ ((Itr lo n).go i H ∧ ∃ N : St → Hp → Prop, (∀ σ' H', N σ' H' → ∃ m', m' < m ∧ W (i + 1) m' σ' H') ∧ ∀ x H', (Itr lo n).yld i H x H' → g x σ H' fun σ2 H2 => tb { D with nx := N, ct := N, bk := D.nx } σ2 H2) := by
 refine ⟨fun i m σ H => m = n - i ∧ i ≤ n ∧ Pv i σ H, ⟨n, by simp, Nat.zero_le _, h0⟩, ?_⟩
 rintro i m σ H ⟨rfl, hi, p⟩
 by_cases hlt : i < n
 ·refine .inr ⟨hlt, Pv (i + 1), fun σ' H' p' => ⟨n - (i + 1), by omega, rfl, hlt, p'⟩, fun x H' y => ?_⟩
  obtain ⟨e, y⟩ := y
  subst e y
  exact hs i σ _ hlt p
 ·have e : i = n := by omega
  subst e
  exact .inl ⟨Nat.le_refl _, hd σ H p⟩
end L2
namespace L2
open PySem PySem.Spec PyProof.Rows
noncomputable abbrev R2 := V → V → Hp → VK → Prop
noncomputable def OpR (X : Cx) (f : Value → Value → Sem Value) (r : R2) : Prop :=
 ∀ (pins : List (Addr × Obj)) (s : Shared) (σ : St) (H : Hp) (x y : V) (v u : Value) (Q : VK), Inv X pins σ H s → RelV x v → RelV y u → r x y H Q →
  wpAny (model X.prog X.w) X.A (f v u) (EP X pins σ Q) X.xe s
noncomputable def UnR (X : Cx) (f : Value → Sem Value) (r : V → Hp → VK → Prop) : Prop :=
 ∀ (pins : List (Addr × Obj)) (s : Shared) (σ : St) (H : Hp) (x : V) (v : Value) (Q : VK), Inv X pins σ H s → RelV x v → r x H Q →
  wpAny (model X.prog X.w) X.A (f v) (EP X pins σ Q) X.xe s
noncomputable def CallR (X : Cx) (f : Value) (r : List V → Hp → VK → Prop) : Prop :=
 ∀ (pins : List (Addr × Obj)) (s : Shared) (σ : St) (H : Hp) (xs : List V) (us : List Value) (Q : VK), Inv X pins σ H s → Vals xs us → r xs H Q →
  wpAny (model X.prog X.w) X.A (call f us) (EP X pins σ Q) X.xe s
noncomputable def tOp (r : R2) (ta tb : TE) : TE := fun σ H Q => ta σ H fun x H1 => tb σ H1 fun y H2 => r x y H2 Q
noncomputable def tUn (r : V → Hp → VK → Prop) (ta : TE) : TE := fun σ H Q => ta σ H fun x H1 => r x H1 Q
noncomputable def rI (C : Int → Int → Prop) (g : Int → Int → V) : R2 := fun x y H Q => ∃ i j, x = .int i ∧ y = .int j ∧ C i j ∧ Q (g i j) H
noncomputable def rI0 (g : Int → Int → V) : R2 := fun x y H Q => ∃ i j, x = .int i ∧ y = .int j ∧ Q (g i j) H
noncomputable def rU (g : Int → V) : V → Hp → VK → Prop := fun x H Q => ∃ i, x = .int i ∧ Q (g i) H
section
variable {X : Cx} {a b c : Expr} {ta tb tc : TE} {pos : Pos}
theorem binT (ha : PE X a ta) (hb : PE X b tb) {pins : List (Addr × Obj)} {s : Shared} {σ : St} {H : Hp} {R : V → V → Hp → Prop} (I : Inv X pins σ H s)
  (h : ta σ H fun x H1 => tb σ H1 fun y H2 => R x y H2) {Q : Value → Shared → Prop} {f : Value → Value → Sem Value}
  (hf : ∀ v u s2 x y H2, Inv X pins σ H2 s2 → RelV x v → RelV y u → R x y H2 → wpAny (model X.prog X.w) X.A (f v u) Q X.xe s2) :
  wpAny (model X.prog X.w) X.A (eval a X.env) (fun v s₁ => wpAny (model X.prog X.w) X.A (eval b X.env) (fun u s₂ => wpAny (model X.prog X.w) X.A (f v u) Q X.xe s₂) X.xe s₁) X.xe s := by
 refine thn (ha pins s σ H _ I h) fun v s1 ⟨x, H1, I1, r1, q1⟩ => ?_
 refine thn (hb pins s1 σ H1 _ I1 q1) fun u s2 ⟨y, H2, I2, r2, q2⟩ => ?_
 exact hf v u s2 x y H2 I2 r1 r2 q2
theorem pe_op {op : Operator} {r : R2} (ho : OpR X (binaryOp op) r) (ha : PE X a ta) (hb : PE X b tb) : PE X (.BinOp a op b pos) (tOp r ta tb) := by
 intro pins s σ H Q I h
 exact wpAny_BinOp (binT ha hb I h fun v u s2 x y H2 I2 rx ry q => ho pins s2 σ H2 x y v u Q I2 rx ry q)
theorem pe_un {op : UnaryOp} {r : V → Hp → VK → Prop} (ho : UnR X (unaryOp op) r) (ha : PE X a ta) : PE X (.UnaryOp op a pos) (tUn r ta) := by
 intro pins s σ H Q I h
 exact UnaryOp_ (thn (ha pins s σ H _ I h) fun v s1 ⟨x, H1, I1, r1, q1⟩ => ho pins s1 σ H1 x v Q I1 r1 q1)
theorem opI {f : Value → Value → Sem Value} {C : Int → Int → Prop} {g : Int → Int → Int}
  (rule : ∀ (i j : Int) (t u : Tok) (s : Shared) (Q : Value → Shared → Prop) (E : Value → Shared → Prop), C i j → Q (.int (g i j) s.toks) { s with toks := s.toks + 1 } → wpAny (model X.prog X.w) X.A (f (.int i t) (.int j u)) Q E s) :
  OpR X f (rI C fun i j => .int (g i j)) := by
 intro pins s σ H x y v u Q I rx ry h
 obtain ⟨i, j, rfl, rfl, hc, q⟩ := h
 obtain ⟨t, rfl⟩ := rx
 obtain ⟨t', rfl⟩ := ry
 exact rule i j t t' s _ _ hc ⟨.int (g i j), H, I.tok _, ⟨_, rfl⟩, q⟩
theorem opI0 {f : Value → Value → Sem Value} {g : Int → Int → Int}
  (rule : ∀ (i j : Int) (t u : Tok) (s : Shared) (Q : Value → Shared → Prop) (E : Value → Shared → Prop), Q (.int (g i j) s.toks) { s with toks := s.toks + 1 } → wpAny (model X.prog X.w) X.A (f (.int i t) (.int j u)) Q E s) :
  OpR X f (rI0 fun i j => .int (g i j)) := by
 intro pins s σ H x y v u Q I rx ry h
 obtain ⟨i, j, rfl, rfl, q⟩ := h
 obtain ⟨t, rfl⟩ := rx
 obtain ⟨t', rfl⟩ := ry
 exact rule i j t t' s _ _ ⟨.int (g i j), H, I.tok _, ⟨_, rfl⟩, q⟩
theorem opB0 {f : Value → Value → Sem Value} {g : Int → Int → Bool}
  (rule : ∀ (i j : Int) (t u : Tok) (s : Shared) (Q : Value → Shared → Prop) (E : Value → Shared → Prop), Q (.bool (g i j)) s → wpAny (model X.prog X.w) X.A (f (.int i t) (.int j u)) Q E s) :
  OpR X f (rI0 fun i j => .bl (g i j)) := by
 intro pins s σ H x y v u Q I rx ry h
 obtain ⟨i, j, rfl, rfl, q⟩ := h
 obtain ⟨t, rfl⟩ := rx
 obtain ⟨t', rfl⟩ := ry
 exact rule i j t t' s _ _ ⟨.bl (g i j), H, I, rfl, q⟩
noncomputable def CMul (i j : Int) : Prop := (-(2 ^ 64) < i ∧ i < 2 ^ 64) ∨ (-(2 ^ 64) < j ∧ j < 2 ^ 64)
theorem CMul.ok {i j : Int} (h : CMul i j) : IntMulOk i j := by
 rcases h with ⟨h1, h2⟩ | ⟨h1, h2⟩
 ·exact .of_left (intBits_le_64 h1 h2)
 ·exact .of_right (intBits_le_64 h1 h2)
theorem op_add : OpR X (binaryOp .Add) (rI0 fun i j => .int (i + j)) := opI0 fun _ _ _ _ _ _ _ q => add_int q
theorem op_sub : OpR X (binaryOp .Sub) (rI0 fun i j => .int (i - j)) := opI0 fun _ _ _ _ _ _ _ q => sub_int q
theorem op_mod : OpR X (binaryOp .Mod) (rI (fun _ j => 0 < j) fun i j => .int (i % j)) := opI fun i j _ _ _ _ _ hc q => by
 have h1 : (0 : Int) < j := hc
 exact mod_int' (by omega) (by rw [Int.fmod_eq_emod_of_nonneg i (by omega)]; exact q)
theorem unI {f : Value → Sem Value} {g : Int → Int}
  (rule : ∀ (i : Int) (t : Tok) (s : Shared) (Q : Value → Shared → Prop) (E : Value → Shared → Prop), Q (.int (g i) s.toks) { s with toks := s.toks + 1 } → wpAny (model X.prog X.w) X.A (f (.int i t)) Q E s) :
  UnR X f (rU fun i => .int (g i)) := by
 intro pins s σ H x v Q I rx h
 obtain ⟨i, rfl, q⟩ := h
 obtain ⟨t, rfl⟩ := rx
 exact rule i t s _ _ ⟨.int (g i), H, I.tok _, ⟨_, rfl⟩, q⟩
theorem un_neg : UnR X (unaryOp .USub) (rU fun i => .int (-i)) := unI fun _ _ _ _ _ q => neg_int q
end
noncomputable def scal : V → V → Bool
 | .non, .non => true | .non, .int _ => true | .int _, .non => true | .non, .bl _ => true | .bl _, .non => true | .non, .str _ => true | .str _, .non => true
 | .int _, .int _ => true | .bl _, .bl _ => true | .str _, .str _ => true | .byt _, .byt _ => true
 | .int _, .str _ => true | .str _, .int _ => true | .bl _, .str _ => true | .str _, .bl _ => true
 | _, _ => false
noncomputable def rEq : R2 := fun x y H Q => scal x y = true ∧ Q (.bl (decide (x = y))) H
noncomputable def rNe : R2 := fun x y H Q => scal x y = true ∧ Q (.bl (!decide (x = y))) H
section
variable {X : Cx} {a b c : Expr} {ta tb tc : TE} {pos : Pos}
theorem op_lt : OpR X (compareOp .Lt) (rI0 fun i j => .bl (decide (i < j))) := opB0 fun _ _ _ _ _ _ _ q => lt_int q
theorem op_le : OpR X (compareOp .LtE) (rI0 fun i j => .bl (decide (i ≤ j))) := opB0 fun _ _ _ _ _ _ _ q => le_int q
theorem op_gt : OpR X (compareOp .Gt) (rI0 fun i j => .bl (decide (j < i))) := opB0 fun _ _ _ _ _ _ _ q => gt_int q
theorem op_ge : OpR X (compareOp .GtE) (rI0 fun i j => .bl (decide (j ≤ i))) := opB0 fun _ _ _ _ _ _ _ q => ge_int q
theorem nomark (b : Expr) {op : CmpOp} (h : op ≠ .In := by decide) (h2 : op ≠ .NotIn := by decide) : behindInMarks op b = false := by
 have e1 : (op == CmpOp.In) = false := by cases op <;> first | rfl | exact absurd rfl h
 have e2 : (op == CmpOp.NotIn) = false := by cases op <;> first | rfl | exact absurd rfl h2
 cases b <;> simp [behindInMarks, e1, e2]
theorem pe_cmpR {op : CmpOp} {r : R2} (ho : OpR X (compareOp op) r) (ha : PE X a ta) (hb : PE X b tb) (hm : behindInMarks op b = false) : PE X (.Compare a [op] [b] pos) (tOp r ta tb) := by
 intro pins s σ H Q I h
 exact wpAny_Compare1 (binT ha hb I h fun v u s2 x y H2 I2 rx ry q => ho pins s2 σ H2 x y v u Q I2 rx ry q) hm
noncomputable def tTest (t : TE) : TT := fun σ H Q => t σ H fun x H' => ∃ k, x = .bl k ∧ Q k H'
noncomputable def tChain (r r' : R2) (ta tb tc : TE) : TE := fun σ H Q => ta σ H fun x H1 => tb σ H1 fun y H2 => r x y H2 fun z H3 => ∃ k, z = .bl k ∧
 (if k = true then tc σ H3 fun w' H4 => r' y w' H4 Q else Q (.bl false) H3)
theorem pe_chain {op op' : CmpOp} {r r' : R2} (ho : OpR X (compareOp op) r) (ho' : OpR X (compareOp op') r') (ha : PE X a ta) (hb : PE X b tb) (hc : PE X c tc)
  (hm : lastMarks [op, op'] [b, c] = false := by with_unfolding_all rfl) : PE X (.Compare a [op, op'] [b, c] pos) (tChain r r' ta tb tc) := by
 intro pins s σ H Q I h
 refine Compare_chain (thn (ha pins s σ H _ I h) fun v s1 ⟨x, H1, I1, r1, q1⟩ => chain_link (thn (hb pins s1 σ H1 _ I1 q1) fun u s2 ⟨y, H2, I2, r2, q2⟩ =>
  thn (ho pins s2 σ H2 x y v u _ I2 r1 r2 q2) fun d s3 ⟨z, H3, I3, r3, k, e, q3⟩ => ?_)) hm
 subst e
 cases r3
 refine wpAny_truthy_bool ?_
 cases k with
 | false => exact ite_ff ⟨.bl false, H3, I3, rfl, q3⟩
 | true => exact ite_tt (chain_last (thn (hc pins s3 σ H3 _ I3 q3) fun w' s4 ⟨z', H4, I4, r4, q4⟩ => ho' pins s4 σ H4 y z' u w' Q I4 r2 r4 q4))
theorem line63 : (sizeLine : Nat) < 2 ^ 63 := by rw [sizeLine_eq]; decide
theorem vals1 {x : V} {us : List Value} (r : Vals [x] us) : ∃ u, us = [u] ∧ RelV x u := by
 cases r with
 | cons r1 r2 => cases r2; exact ⟨_, rfl, r1⟩
theorem vals2 {x y : V} {us : List Value} (r : Vals [x, y] us) : ∃ u w', us = [u, w'] ∧ RelV x u ∧ RelV y w' := by
 cases r with
 | cons r1 r2 =>
  cases r2 with
  | cons r3 r4 => cases r4; exact ⟨_, _, rfl, r1, r3⟩
theorem call_abs : CallR X (.builtin "abs") (fun xs H Q => ∃ i, xs = [.int i] ∧ Q (.int (if i < 0 then -i else i)) H) := by
 intro pins s σ H xs us Q I r h
 obtain ⟨i, rfl, q⟩ := h
 obtain ⟨u, rfl, t, rfl⟩ := vals1 r
 exact call_abs_int fun u tk => ⟨.int (if i < 0 then -i else i), H, I.tok _, ⟨_, rfl⟩, q⟩
theorem call_max2 (hc : X.calm = true) : CallR X (.builtin "max") (fun xs H Q => ∃ i j, xs = [.int i, .int j] ∧ Q (.int (if j > i then j else i)) H) := by
 intro pins s σ H xs us Q I r h
 obtain ⟨i, j, rfl, q⟩ := h
 obtain ⟨u, w', rfl, ⟨t, rfl⟩, ⟨t', rfl⟩⟩ := vals2 r
 refine max_two_ints (I.ok.hd hc) fun h' tk k => ⟨_, H, I.kept k, ?_, q⟩
 by_cases hj : j > i
 ·rw [if_pos hj, if_pos hj]; exact ⟨_, rfl⟩
 ·rw [if_neg hj, if_neg hj]; exact ⟨_, rfl⟩
theorem call_min2 (hc : X.calm = true) : CallR X (.builtin "min") (fun xs H Q => ∃ i j, xs = [.int i, .int j] ∧ Q (.int (if j < i then j else i)) H) := by
 intro pins s σ H xs us Q I r h
 obtain ⟨i, j, rfl, q⟩ := h
 obtain ⟨u, w', rfl, ⟨t, rfl⟩, ⟨t', rfl⟩⟩ := vals2 r
 refine min_two_ints (I.ok.hd hc) fun h' tk k => ⟨_, H, I.kept k, ?_, q⟩
 by_cases hj : j < i
 ·rw [if_pos hj, if_pos hj]; exact ⟨_, rfl⟩
 ·rw [if_neg hj, if_neg hj]; exact ⟨_, rfl⟩
end
end L2
namespace L2
open PySem PySem.Spec PyProof.Rows
structure ObjM (h : Heap) (x dx C : Addr) (mA : Str → Option Value) : Prop where
 obj : h.get? x = some (PySem.W.instObj C dx)
 ns : h.Ns1 dx mA
 ne : dx ≠ x
theorem lookIn_ns {h : Heap} {dx : Addr} {mA : Str → Option Value} (n : h.Ns1 dx mA) : ∃ od, h.get? dx = some od ∧ ∀ name, PySem.W.lookIn name od = some (mA name) := by
 obtain ⟨o, es, ep, ho, hd, hk, _, hm⟩ := n
 refine ⟨o, ho, fun name => ?_⟩
 have e := hm name
 unfold nsFind findBy at e
 rw [← Array.find?_toList] at e
 unfold PySem.W.lookIn
 rw [hd]
 dsimp only
 split
 ·rename_i y q
  rw [q] at e
  exact congrArg some e
 ·rename_i q
  rw [q] at e
  have a : es.toList.any (·.refKey) = false := by
   rw [List.any_eq_false]
   intro y hy
   obtain ⟨z, t, hkey⟩ := hk y (Array.mem_toList_iff.mp hy)
   simp [DictEntry.refKey, hkey]
  have a' : ¬ es.toList.any (·.refKey) = true := by rw [a]; exact Bool.false_ne_true
  rw [if_neg a']
  exact congrArg some e
theorem ObjM.look {h : Heap} {x dx C : Addr} {mA : Str → Option Value} (I : ObjM h x dx C mA) : ∃ od, PySem.W.InstAt h x (PySem.W.instObj C dx) C (some od) ∧ ∀ name, PySem.W.lookIn name od = some (mA name) :=
 let ⟨od, ho, hl⟩ := lookIn_ns I.ns
 ⟨od, ⟨I.obj, rfl, rfl, ho⟩, hl⟩
section
variable {P : Program} {w : World} {H H' : Hp} {h h' : Heap} {a C dx : Addr} {fs fs' : List (Str × V)}
theorem ins_get (hok : HOk P w H h) (e : H a = some (.ins C dx fs)) : ∃ mA, ObjM h a dx C mA ∧ (∀ f, RelO (fs.lookup f) (mA f)) ∧ PySem.Within mA (fs.map (·.1)) ∧ fs.length ≤ 1000 ∧ H dx = some (.own a) := by
 obtain ⟨d, z, ne, ob, mA, n, r, q⟩ := (show ObjOk P w H h a (.ins C dx fs) from hok a _ e)
 exact ⟨mA, ⟨ob, n, ne⟩, r, q, z, d⟩
end
structure Cls (K : PySem.W.Frag) (C : Addr) : Prop where
 pg : PySem.W.plainGet K C Str.empty = true
 hd : PySem.W.hasDictIn K C = true
 po : PySem.W.plainOver K C = true
 sa : PySem.W.findIn K (.ref C) "__setattr__" = some (some (.builtin "object.__setattr__"))
theorem Cls.get {K : PySem.W.Frag} {C : Addr} (c : Cls K C) (f : Str) : PySem.W.plainGet K C f = true := c.pg
section
variable {X : Cx} {pins : List (Addr × Obj)} {σ : St} {H : Hp} {s : Shared} {A : Around} {E : Value → Shared → Prop} {Q : Value → Shared → Prop} {c : Value} {b : Bool}
inductive TyOf (K : PySem.W.Frag) (H : Hp) : V → Value → Prop where
 | non : TyOf K H .non (.type "NoneType")
 | bl (x : Bool) : TyOf K H (.bl x) (.type "bool")
 | int (i : Int) : TyOf K H (.int i) (.type "int")
 | str (x : Str) : TyOf K H (.str x) (.type "str")
 | flt (x : UInt64) : TyOf K H (.flt x) (.type "float")
 | lst {a : Addr} {xs : List V} (e : H a = some (.lst xs)) : TyOf K H (.ref a) (.type "list")
 | frz {a : Addr} {o : Obj} {xs : List V} (e : H a = some (.frz o (.lst xs))) : TyOf K H (.ref a) (.type "list")
 | tup {a : Addr} {xs : List V} (e : H a = some (.tup xs)) : TyOf K H (.ref a) (.type "tuple")
 | dK {a : Addr} {kvs : List (Key × V)} (e : H a = some (.dK kvs)) : TyOf K H (.ref a) (.type "dict")
 | dT {a : Addr} {kvs : List (List Key × V)} (e : H a = some (.dT kvs)) : TyOf K H (.ref a) (.type "dict")
 | ins {a C dx : Addr} {fs : List (Str × V)} (e : H a = some (.ins C dx fs)) (cl : Cls K C) (ha : PySem.W.findIn K (.ref C) "__class__" = some (some (.builtin "object.__class__")))
   (hn : PySem.W.specialIn K (.builtin "object.__class__") "__get__" = some (some (.builtin "getset_descriptor.__get__"))) (htk : PySem.W.takesIn K (.builtin "object.__class__") = some true)
   (hm : PySem.W.mroIn K C (.type "object") = some true) : TyOf K H (.ref a) (.ref C)
theorem isinst_ok {x : V} {u t : Value} (I : Inv X pins σ H s) (rx : RelV x u) (ty : TyOf X.K H x t) (e : PySem.W.kitOne X.K t c = some b) (h : ∀ tk, Q (.bool b) { s with toks := tk }) :
  wpAny (model X.prog X.w) A (call (.builtin "isinstance") [u, c]) Q E s := by
 cases ty with
 | non => cases (show u = Value.none from rx); exact PySem.W.kia_one PySem.W.kitx_none I.kIn True.intro e (fun z => nomatch z) h
 | bl y => cases (show u = Value.bool y from rx); exact PySem.W.kia_one PySem.W.kitx_bool I.kIn True.intro e (fun z => nomatch z) h
 | int i => obtain ⟨t, q⟩ := (show ∃ t, u = Value.int i t from rx); cases q; exact PySem.W.kia_one PySem.W.kitx_int I.kIn True.intro e (fun z => nomatch z) h
 | str y => obtain ⟨t, q⟩ := (show ∃ t, u = Value.str y t from rx); cases q; exact PySem.W.kia_one PySem.W.kitx_str I.kIn True.intro e (fun z => nomatch z) h
 | flt y => obtain ⟨t, q⟩ := (show ∃ t, u = Value.float y t from rx); cases q; exact PySem.W.kia_one PySem.W.kitx_float I.kIn True.intro e (fun z => nomatch z) h
 | @lst a xs ea =>
  cases (show u = Value.ref a from rx)
  obtain ⟨_, _, n, _, h1⟩ := (show ObjOk X.prog X.w H s.heap a (.lst xs) from I.hok a _ ea)
  exact PySem.W.kia_one PySem.W.kitx_list I.kIn ⟨_, h1, rfl⟩ e (fun z => nomatch z) h
 | @frz a ob xs ea =>
  cases (show u = Value.ref a from rx)
  obtain ⟨_, _, _, n, _, h1⟩ := (show ObjOk X.prog X.w H s.heap a (.frz ob (.lst xs)) from I.hok a _ ea)
  exact PySem.W.kia_one PySem.W.kitx_list I.kIn ⟨_, h1, rfl⟩ e (fun z => nomatch z) h
 | @tup a xs ea =>
  cases (show u = Value.ref a from rx)
  obtain ⟨_, _, _, p⟩ := (show ObjOk X.prog X.w H s.heap a (.tup xs) from I.hok a _ ea)
  obtain ⟨o, h1, h2, _⟩ := p
  exact PySem.W.kia_one PySem.W.kitx_tuple I.kIn ⟨o, h1, h2⟩ e (fun z => nomatch z) h
 | @dK a kvs ea =>
  cases (show u = Value.ref a from rx)
  obtain ⟨_, _, vs, _, p⟩ := (show ObjOk X.prog X.w H s.heap a (.dK kvs) from I.hok a _ ea)
  obtain ⟨o, es, ep, h1, h2, _⟩ := p
  exact PySem.W.kia_one PySem.W.kitx_dict I.kIn ⟨o, h1, h2.1⟩ e (fun z => nomatch z) h
 | @dT a kvs ea =>
  cases (show u = Value.ref a from rx)
  obtain ⟨_, _, xs, _, o, es, ep, h1, h2, _⟩ := (show ObjOk X.prog X.w H s.heap a (.dT kvs) from I.hok a _ ea)
  exact PySem.W.kia_one PySem.W.kitx_dict I.kIn ⟨o, h1, h2.1⟩ e (fun z => nomatch z) h
 | @ins a C dx fs ea cl ha hn htk hm =>
  cases (show u = Value.ref a from rx)
  obtain ⟨mA, O, _⟩ := ins_get I.hok ea
  obtain ⟨od, J, _⟩ := O.look
  exact PySem.W.kia_one (PySem.W.kitx_own (cl.get _) cl.hd ha hn htk hm) I.kIn J e (fun z => nomatch z) h
end
end L2
namespace L2
open PySem PySem.Spec PyProof.Rows
structure Room (k : Nat) (A : Around) : Prop where
 hd : A.handled = none
 dp : A.depth + 3 * k + 5 < recursionLimit
 un : A.units + 16 * k + 200 < cLine
theorem Room.mono {j k : Nat} {A : Around} (r : Room k A) (h : j ≤ k) : Room j A := ⟨r.hd, by have := r.dp; omega, by have := r.un; omega⟩
theorem Room.deeper {k : Nat} {A : Around} (r : Room (k + 1) A) (env : Env) : Room k (A.deeper env) :=
 ⟨r.hd, by have := r.dp; show A.depth + 1 + 3 * k + 5 < _; omega, by have := r.un; show A.units + 3 + 16 * k + 200 < _; omega⟩
theorem Room.in1 {k : Nat} {A : Around} (r : Room (k + 1) A) : Room k A.in1 :=
 ⟨r.hd, by have := r.dp; show A.depth + 3 * k + 5 < _; omega, by have := r.un; show A.units + 1 + 16 * k + 200 < _; omega⟩
theorem Room.depth {k : Nat} {A : Around} (r : Room k A) : A.depth < recursionLimit := by have := r.dp; omega
theorem Room.units {k : Nat} {A : Around} (r : Room k A) : A.units + 64 < cLine := by have := r.un; omega
noncomputable def tNil : TA := fun _ H Q => Q [] H
noncomputable def tCons (ta : TE) (tr : TA) : TA := fun σ H Q => ta σ H fun x H1 => tr σ H1 fun xs H2 => Q (x :: xs) H2
section
variable {X : Cx} {e : Expr} {es : List Expr} {te : TE} {t : TA} {pos : Pos}
theorem pa_nil : PA X [] tNil := fun _ _ _ _ H Q I h => Calls.spliced_nil ⟨[], H, I, .nil, h⟩
theorem pa_cons (ha : PE X e te) (hr : PA X es t) (hs : starEach (e :: es) X.env = (false, eval e X.env) :: starEach es X.env := by rfl) : PA X (e :: es) (tCons te t) := by
 intro pos pins s σ H Q I h
 rw [hs]
 show wpAny _ _ (spliced ((false, eval e X.env) :: backTo pos (starEach es X.env))) _ _ s
 refine Calls.spliced_cons (thn (ha pins s σ H _ I h) fun u s1 ⟨x, H1, I1, r1, q1⟩ => ?_)
 exact thn (hr pos pins s1 σ H1 _ I1 q1) fun us s2 ⟨xs, H2, I2, r2, q2⟩ => ⟨x :: xs, H2, I2, .cons r1 r2, q2⟩
noncomputable def tTup (t : TA) : TE := fun σ H Q => t σ H fun xs H1 => xs.length ≤ sizeLine ∧ ∀ p, H1 p = none → Q (.ref p) (upd H1 p (.tup xs))
noncomputable def tLst (t : TA) : TE := fun σ H Q => t σ H fun xs H1 => xs.length ≤ sizeLine ∧ ∀ p, H1 p = none → Q (.ref p) (upd H1 p (.lst xs))
theorem pe_tup {x1} (h : PA X es t) : PE X (.Tuple es x1 pos) (tTup t) := by
 intro pins s σ H Q I hq
 refine wpAny_Tuple_spliced (thn (h pos pins s σ H _ I hq) fun us s1 ⟨xs, H1, I1, r, z, q⟩ => ⟨by rw [← r.length]; exact z, ?_⟩)
 have hf : H1 s1.heap.objs.size = none := I1.hok.fresh (Nat.le_refl _)
 refine ⟨.ref s1.heap.objs.size, upd H1 s1.heap.objs.size (.tup xs), I1.laid (t' := s1.toks) (fun b u e => Heap.get?_push_of_some _ e) (Nat.le_refl _) ?_, rfl, q _ hf⟩
 exact ⟨z, us, r, ⟨_, Heap.get?_push_size _ rfl, rfl, _, rfl⟩⟩
theorem pe_lst (h : PA X es t) : PE X (.List es pos) (tLst t) := by
 intro pins s σ H Q I hq
 refine wpAny_List_spliced (thn (h pos pins s σ H _ I hq) fun us s1 ⟨xs, H1, I1, r, z, q⟩ => ⟨by rw [← r.length]; exact z, ?_⟩)
 have hf : H1 s1.heap.objs.size = none := I1.hok.fresh (Nat.le_refl _)
 refine ⟨.ref s1.heap.objs.size, upd H1 s1.heap.objs.size (.lst xs), I1.laid (t' := s1.toks) (fun b u e => Heap.get?_push_of_some _ e) (Nat.le_refl _) ?_, rfl, q _ hf⟩
 exact ⟨z, us, 0, r, Heap.get?_push_size _ rfl⟩
end
noncomputable abbrev Sp := List V → Hp → VK → XK → Prop
noncomputable abbrev CXT := List Env → Hp → Shared → XK → Value → Shared → Prop
structure Env0 (P : Program) (w : World) (K : PySem.W.Frag) (mg : Str → Option Value) (base : Heap) (A : Around) (outer : List Env) (s : Shared) (H : Hp) : Prop where
 frames : A.frames = some outer
 mod : Mod K mg base
 bs : ∀ b o, base.get? b = some o → s.heap.get? b = some o ∧ H b = none
 bsz : base.objs.size ≤ s.heap.objs.size
 funs : s.heap.FunFrames base outer
 frf : ∀ b ∈ frs outer, H b = none
 hok : HOk P w H s.heap
 bare : AllBare s.gens
noncomputable def CE (outer : List Env) (P : Program) (w : World) (H : Hp) (s : Shared) (Q : VK) (u : Value) (s' : Shared) : Prop :=
 ∃ v H', s'.os = s.os ∧ AllBare s'.gens ∧ Un (frs outer) [] H H' s.heap s'.heap ∧ HOk P w H' s'.heap ∧ RelV v u ∧ Q v H'
noncomputable def CR (CX : CXT) (outer : List Env) (P : Program) (w : World) (H : Hp) (s : Shared) (Q : VK) (E : XK) (r : Result) (s' : Shared) : Prop :=
 match r with
 | .ok (.ret u) => CE outer P w H s Q u s'
 | .ok _ => False
 | .error e => CX outer H s E e s'
structure FnOk (P : Program) (w : World) (K : PySem.W.Frag) (mg : Str → Option Value) (base : Heap) (CX : CXT) (k : Nat) (f : Addr) (fd : FuncData) (ps : List Str) (sp : Sp) : Prop where
 len : ∀ vs H Q E, sp vs H Q E → vs.length = ps.length
 run : ∀ (A : Around) (outer : List Env) (s : Shared) (H : Hp) (args : Args) (us : List Value) (vs : List V) (Q : VK) (E : XK), Room k A → Env0 P w K mg base A outer s H → BindsTo s fd args (ps.zip us) → Vals vs us → sp vs H Q E →
  codeAny (model P w) A (.call (.ref f) args) (CR CX outer P w H s Q E) s
theorem FnOk.mono {P : Program} {w : World} {K : PySem.W.Frag} {mg : Str → Option Value} {base : Heap} {CX : CXT} {j k : Nat} {f : Addr} {fd : FuncData} {ps : List Str} {sp : Sp} (F : FnOk P w K mg base CX j f fd ps sp) (h : j ≤ k) :
  FnOk P w K mg base CX k f fd ps sp := ⟨F.len, fun A outer s H args us vs Q E hr => F.run A outer s H args us vs Q E (hr.mono h)⟩
theorem FnOk.imp {P : Program} {w : World} {K : PySem.W.Frag} {mg : Str → Option Value} {base : Heap} {CX : CXT} {k : Nat} {f : Addr} {fd : FuncData} {ps : List Str} {sp sp' : Sp} (F : FnOk P w K mg base CX k f fd ps sp)
  (h : ∀ vs H Q E, sp' vs H Q E → sp vs H Q E) : FnOk P w K mg base CX k f fd ps sp' :=
 ⟨fun vs H Q E q => F.len vs H Q E (h _ _ _ _ q), fun A outer s H args us vs Q E hr he hb hv hs => F.run A outer s H args us vs Q E hr he hb hv (h _ _ _ _ hs)⟩
theorem Env0.in1 {P : Program} {w : World} {K : PySem.W.Frag} {mg : Str → Option Value} {base : Heap} {A : Around} {outer : List Env} {s : Shared} {H : Hp} (e : Env0 P w K mg base A outer s H) :
  Env0 P w K mg base A.in1 outer s H := ⟨e.frames, e.mod, e.bs, e.bsz, e.funs, e.frf, e.hok, e.bare⟩
section
variable {X : Cx} {pins : List (Addr × Obj)} {σ : St} {H : Hp} {s s' : Shared}
theorem Inv.env0 (I : Inv X pins σ H s) : Env0 X.prog X.w X.K X.mg X.base X.A X.stack s H :=
 ⟨I.ok.frames, I.ok.mod, I.bs, Nat.le_trans I.ok.bsz I.sz, I.stack, I.stkFree, I.hok, I.bare⟩
theorem Inv.after {Q : VK} {u : Value} (I : Inv X pins σ H s) (h : CE X.stack X.prog X.w H s Q u s') : EP X pins σ Q u s' := by
 obtain ⟨v, H', os, bare, un, hok, r, q⟩ := h
 obtain ⟨hh, g, d, t, os'⟩ := s'
 obtain rfl : os' = s.os := os
 exact ⟨v, H', I.call (h' := hh) (g' := g) (d' := d) (t' := t) (ch := []) un hok bare (fun b z => absurd z (by simp)), r, q⟩
end
noncomputable def tCall (sp : Sp) (dvs : List V) (E : XK) (t : TA) : TE := fun σ H Q => t σ H fun vs H1 => sp (vs ++ dvs) H1 Q E
noncomputable def Binds (K : PySem.W.Frag) (fd : FuncData) (ps : List Str) (ds : List Value) : Prop :=
 ∀ (s : Shared) (us : List Value), K.In s.heap → (us ++ ds).length = ps.length → BindsTo s fd ⟨us, []⟩ (ps.zip (us ++ ds))
theorem Binds.all {K : PySem.W.Frag} {fd : FuncData} {ps : List Str} (h : ∀ us : List Value, us.length = ps.length → bindArgs fd ⟨us, []⟩ = pure (ps.zip us)) : Binds K fd ps [] := fun s us _ hl => by
 rw [List.append_nil] at hl ⊢
 exact .of_eq (h us hl)
noncomputable def Passes (CX : CXT) (X : Cx) (E : XK) : Prop := ∀ (pins : List (Addr × Obj)) (σ : St) (H : Hp) (s : Shared) (e : Value) (s' : Shared), Inv X pins σ H s → CX X.stack H s E e s' → X.xe e s'
section
variable {X : Cx} {CX : CXT} {k : Nat} {f C : Addr} {fd : FuncData} {ps : List Str} {sp : Sp} {dvs : List V} {ds : List Value} {E : XK} {x m : Str} {p pos apos : Pos} {e o : Expr} {es : List Expr} {ta : TE} {t : TA}
theorem run_fn {pins : List (Addr × Obj)} {σ : St} {H : Hp} {s : Shared} {Q : VK} {us : List Value} {vs : List V} (F : FnOk X.prog X.w X.K X.mg X.base CX k f fd ps sp) (hr : Room k X.A) (hb : Binds X.K fd ps ds) (hd : Vals dvs ds) (hx : Passes CX X E)
  (I : Inv X pins σ H s) (r : Vals vs us) (h : sp (vs ++ dvs) H Q E) : wpAny (model X.prog X.w) X.A (call (.ref f) us) (EP X pins σ Q) X.xe s := by
 have r2 : Vals (vs ++ dvs) (us ++ ds) := r.append hd
 have hl : (us ++ ds).length = ps.length := by rw [← r2.length]; exact F.len _ _ _ _ h
 refine wpAny_call (codeAny_mono (F.run X.A X.stack s H ⟨us, []⟩ (us ++ ds) (vs ++ dvs) Q E hr I.env0 (hb s us I.kIn hl) r2 h) fun r s' hq => ?_)
 cases r with
 | error e => exact hx pins σ H s e s' I hq
 | ok fl =>
  cases fl with
  | ret u => exact I.after hq
  | next => exact False.elim hq
  | brk => exact False.elim hq
  | cont => exact False.elim hq
theorem pe_call (F : FnOk X.prog X.w X.K X.mg X.base CX k f fd ps sp) (hr : Room k X.A) (hg : Gl X x) (hm : X.mg x = some (.ref f)) (hk : PySem.W.keepIn X.K (.ref f) = true) (hb : Binds X.K fd ps ds) (hd : Vals dvs ds) (hx : Passes CX X E)
  (ha : PA X (e :: es) t) (hdb : (x == ("__debug__" : Str)) = false := by decide) (he : starEach (e :: es) X.env = (false, eval e X.env) :: starEach es X.env := by rfl) (hpl : (backTo pos (starEach es X.env)).any (·.1) = false := by rfl) :
  PE X (.Call (.Name x p) (e :: es) [] pos) (tCall sp dvs E t) := by
 intro pins s σ H Q I h
 refine wpAny_Call_Name_kw (ld_glob I hg hm ?_ hdb)
 refine PySem.W.callWith_K (h₀ := X.base) I.ok.mod.kin hk (thn (ha pos pins s σ H _ I h) fun us s1 ⟨vs, H1, I1, r, q⟩ => ⟨I1.kIn, ?_⟩) he hpl
 exact run_fn F hr hb hd hx I1 r q
end
structure FnScope (N P : List Str) (sc : Scope) : Prop where
 kind : sc.kind = .function
 co : sc.isCoroutine = false
 gen : sc.isGenerator = false
 nd : N.Nodup
 pre : N.take P.length = P
 par : ∀ x ∈ P, sc.names.lookup x = some .local ∨ sc.names.lookup x = some .cell
 nofree : ∀ y ∈ sc.names, y.2 ≠ .free
theorem bindL_out {kindOf : Str → Option NameKind} {x : Str} : ∀ {binds : List (Str × Value)} {m : Str → Option Value}, (∀ v, (x, v) ∉ binds) → bindL kindOf binds m x = m x
 | [], _, _ => rfl
 | (n, v) :: r, m, h => by
  unfold bindL
  rw [bindL_out fun w hw => h w (List.mem_cons_of_mem _ hw)]
  split
  ·have : x ≠ n := by rintro rfl; exact h v List.mem_cons_self
   simp [this]
  ·rfl
theorem bindC_out {kindOf : Str → Option NameKind} {x : Str} : ∀ {binds : List (Str × Value)} {m : Str → Option Value}, (∀ v, (x, v) ∉ binds) → bindC kindOf binds m x = m x
 | [], _, _ => rfl
 | (n, v) :: r, m, h => by
  unfold bindC
  rw [bindC_out fun w hw => h w (List.mem_cons_of_mem _ hw)]
  split
  ·rfl
  ·have : x ≠ n := by rintro rfl; exact h v List.mem_cons_self
   simp [this]
theorem bindL_get {kindOf : Str → Option NameKind} {x : Str} {v : Value} : ∀ {P : List Str} {vs : List Value} {i : Nat} {m : Str → Option Value}, P.Nodup → P[i]? = some x → vs[i]? = some v → kindOf x = some .local →
  bindL kindOf (P.zip vs) m x = some v
 | [], _, _, _, _, h, _, _ => by simp at h
 | _ :: _, [], _, _, _, _, h, _ => by simp at h
 | p :: P, w :: vs, 0, m, nd, h1, h2, hk => by
  simp at h1 h2; subst h1; subst h2
  show bindL kindOf ((p, w) :: P.zip vs) m p = _
  unfold bindL
  rw [bindL_out fun v hv => (List.nodup_cons.mp nd).1 (List.of_mem_zip hv).1, if_pos hk]
  simp
 | p :: P, w :: vs, i + 1, m, nd, h1, h2, hk => by
  show bindL kindOf ((p, w) :: P.zip vs) m x = _
  unfold bindL
  exact bindL_get (i := i) (List.nodup_cons.mp nd).2 (by simpa using h1) (by simpa using h2) hk
theorem bindC_get {kindOf : Str → Option NameKind} {x : Str} {v : Value} : ∀ {P : List Str} {vs : List Value} {i : Nat} {m : Str → Option Value}, P.Nodup → P[i]? = some x → vs[i]? = some v → kindOf x ≠ some .local →
  bindC kindOf (P.zip vs) m x = some v
 | [], _, _, _, _, h, _, _ => by simp at h
 | _ :: _, [], _, _, _, _, h, _ => by simp at h
 | p :: P, w :: vs, 0, m, nd, h1, h2, hk => by
  simp at h1 h2; subst h1; subst h2
  show bindC kindOf ((p, w) :: P.zip vs) m p = _
  unfold bindC
  rw [bindC_out fun v hv => (List.nodup_cons.mp nd).1 (List.of_mem_zip hv).1, if_neg hk]
  simp
 | p :: P, w :: vs, i + 1, m, nd, h1, h2, hk => by
  show bindC kindOf ((p, w) :: P.zip vs) m x = _
  unfold bindC
  exact bindC_get (i := i) (List.nodup_cons.mp nd).2 (by simpa using h1) (by simpa using h2) hk
noncomputable def start (N : List Str) (vs : List V) : St := vs.map some ++ List.replicate (N.length - vs.length) none
noncomputable def cxOf (CX : CXT) (P : Program) (w : World) (K : PySem.W.Frag) (mg : Str → Option Value) (base : Heap) (N : List Str) (qual : Str) (scope : Scope) (f : Addr) (cd : Value) (A : Around) (outer : List Env) (s : Shared) (H : Hp) (E : XK) : Cx where
 prog := P
 w := w
 K := K
 mg := mg
 base := base
 A := A.deeper (envOfC qual scope s.heap.objs.size f cd)
 N := N
 s₀ := s
 H₀ := H
 env := envOfC qual scope s.heap.objs.size f cd
 outer := outer
 stack := envOfC qual scope s.heap.objs.size f cd :: outer
 ex := []
 calm := true
 fn := fun _ => true
 pn := []
 xe := fun e s' => wpAny (model P w) (A.deeper (envOfC qual scope s.heap.objs.size f cd)) (leaving (envOfC qual scope s.heap.objs.size f cd) e) (fun _ s'' => CX outer H s E e s'') (fun e' s'' => CX outer H s E e' s'') s'
theorem cell_has {sc : Scope} {n : Nat} {x : Str} (h : sc.names.lookup x = some .cell) : ∃ c, (cellsFrom n sc.names []).lookup x = some c := by
 have q := PySem.W.cellsFrom_some sc.names n [] (.inl h)
 exact Option.isSome_iff_exists.mp q
theorem inv_start {CX : CXT} {P : Program} {w : World} {K : PySem.W.Frag} {mg : Str → Option Value} {base : Heap} {N ps : List Str} {qual : Str} {scope : Scope} {f : Addr} {cd : Value} {A : Around} {outer : List Env} {s s1 : Shared} {H : Hp} {E : XK} {us : List Value} {vs : List V}
  (S : FnScope N ps scope) (hd : A.handled = none) (e0 : Env0 P w K mg base A outer s H) (hl : vs.length = ps.length) (r : Vals vs us)
  (x : InCallC s s.heap.objs.size (bindL (envOfC qual scope s.heap.objs.size f cd).kindOf (ps.zip us) fun _ => none) (cellsFrom (s.heap.objs.size + 1) scope.names []) (bindC (envOfC qual scope s.heap.objs.size f cd).kindOf (ps.zip us) fun _ => none) s1) :
  Inv (cxOf CX P w K mg base N qual scope f cd A outer s H E) [] (start N vs) H s1 := by
 have hpl : ps.length ≤ N.length := by have := congrArg List.length S.pre; rw [List.length_take] at this; omega
 obtain ⟨h1, tk, rfl, hk⟩ := x.done
 have noA : ∀ b : Addr, b ∉ (cxOf CX P w K mg base N qual scope f cd A outer s H E).ex := fun b z => absurd (show b ∈ ([] : List Addr) from z) (by simp)
 refine ⟨⟨e0.mod, S.kind, rfl, rfl, Nat.le_refl _, fun y z c h1 h2 => ?_, fun y hy => ?_, fun y c _ h => ?_, fun _ => hd, Around.frames_deeper e0.frames, .inr ⟨rfl, rfl⟩, fun b z => absurd z (noA b), e0.bs, e0.bsz, fun b _ _ => noA b, fun b z => absurd z (noA b), e0.funs, e0.frf⟩,
  rfl, e0.bare, Un.kept hk, ⟨_, x.toInCall.ns, fun i y v h1 h2 h3 => ?_⟩, fun y c h => ⟨_, x.cell y c h⟩, e0.hok.fresh (Nat.le_refl _), fun y c h => ?_, fun p hp => absurd (show p ∈ ([] : List (Addr × Obj)) from hp) (by simp), e0.hok.kept hk, ?_⟩
 ·exact name_of_addr x.apart (PySem.mem_of_lookup h1) (PySem.mem_of_lookup h2)
 ·have hy : scope.names.lookup y = some .cell ∨ scope.names.lookup y = some .free := hy
  rcases hy with hy | hy
  ·exact cell_has hy
  ·exact absurd rfl (S.nofree _ (PySem.mem_of_lookup hy))
 ·exact Nat.le_of_lt (x.above y c (PySem.mem_of_lookup h))
 ·have hi : i < vs.length := by
   unfold start at h2
   by_cases hi : i < vs.length
   ·exact hi
   ·rw [List.getElem?_append_right (by simpa using hi)] at h2
    rw [List.getElem?_replicate] at h2
    split at h2 <;> cases h2
  have ha : vs[i]? = some v := by
   unfold start at h2
   rw [List.getElem?_append_left (by simpa using hi), List.getElem?_map] at h2
   cases e : vs[i]? with
   | none => rw [e] at h2; cases h2
   | some a => rw [e] at h2; cases h2; rfl
  obtain ⟨u, hu, rv⟩ := r.get ha
  have hp : ps[i]? = some y := by
   rw [← S.pre, List.getElem?_take_of_lt (by omega)]; exact h1
  have ndP : ps.Nodup := by rw [← S.pre]; exact S.nd.sublist (List.take_sublist _ _)
  refine ⟨u, rv, ?_⟩
  rcases S.par y (List.mem_of_getElem? hp) with k | k
  ·exact .inl ⟨k, bindL_get ndP hp hu k⟩
  ·obtain ⟨c, e⟩ := cell_has (n := s.heap.objs.size + 1) k
   refine .inr ⟨.inl k, c, e, ?_⟩
   have q := x.cell y c e
   rw [bindC_get ndP hp hu (by show scope.names.lookup y ≠ _; rw [k]; decide)] at q
   exact q
 ·exact e0.hok.fresh (Nat.le_of_lt (x.above y c (PySem.mem_of_lookup h)))
 ·unfold start
  show _ = N.length
  rw [List.length_append, List.length_map, List.length_replicate]
  omega
theorem fn_of {CX : CXT} {P : Program} {w : World} {K : PySem.W.Frag} {mg : Str → Option Value} {base : Heap} {k : Nat} {f : Addr} {name qual : Str} {params : Arguments} {body : List Stmt} {scope : Scope} {dV kV doc pm cdv ct oc : Value} {an od : Option Addr}
  {osl : Array (Option Value)} {N ps : List Str} {sp : Sp} (lk : K.lookup f = some ⟨oc, od, .func (PySem.W.fnOf name qual params body scope dV kV doc pm an cdv ct), osl⟩) (hcd : PySem.W.codeIn K cdv qual = true) (S : FnScope N ps scope)
  (len : ∀ vs H Q E, sp vs H Q E → vs.length = ps.length)
  (hbody : ∀ (A : Around) (outer : List Env) (s : Shared) (H : Hp) (vs : List V) (Q : VK) (E : XK), Room k (A.deeper (envOfC qual scope s.heap.objs.size f cdv)) → sp vs H Q E →
   ∃ t, PSs (cxOf CX P w K mg base N qual scope f cdv A outer s H E) body t ∧ t { nx := fun _ H' => Q .non H', rt := Q } (start N vs) H) :
  FnOk P w K mg base CX (k + 1) f (PySem.W.fnOf name qual params body scope dV kV doc pm an cdv ct) ps sp := by
 refine ⟨len, fun A outer s H args us vs Q E hr e0 hb r hsp => ?_⟩
 have hl := len _ _ _ _ hsp
 have KX : K.In s.heap := e0.mod.kin.keeps fun b o e => (e0.bs b o e).1
 have lim : s.heap.NoLimit := e0.mod.nolimit.keeps fun b o e => (e0.bs b o e).1
 have hkind : ∀ y ∈ ps.zip us, scope.names.lookup y.1 = some .local ∨ (scope.names.lookup y.1 = some .cell ∧ ((cellsFrom (s.heap.objs.size + 1) scope.names []).lookup y.1).isSome = true) := fun ⟨n, v⟩ hy => by
  rcases S.par n (List.of_mem_zip hy).1 with q | q
  ·exact .inl q
  ·exact .inr ⟨q, PySem.W.cellsFrom_some _ _ _ (.inl q)⟩
 refine codeAny_call_function hr.depth (KX _ _ lk) rfl S.co S.gen rfl (PySem.W.codeRec_of KX hcd) (hb _ _ _ _ ?_)
 refine wpAny_newFunctionEnv_cells S.kind hkind fun env he s1 x => ?_
 subst he
 refine ⟨lim.keeps x.toInCall.keep, codeAny_func ?_⟩
 obtain ⟨t, ht, hq⟩ := hbody A outer s H vs Q E (hr.deeper _) hsp
 have I : Inv (cxOf CX P w K mg base N qual scope f cdv A outer s H E) [] (start N vs) H s1 := inv_start S hr.hd e0 hl r x
 refine wpAny_mono (ht [] s1 (start N vs) H _ I hq) (fun fl s' hs => ?_) fun e s' hs => hs
 have fin : ∀ {σ' : St} {H' : Hp} {v : V} {u : Value}, Inv (cxOf CX P w K mg base N qual scope f cdv A outer s H E) [] σ' H' s' → RelV v u → Q v H' → CE outer P w H s Q u s' :=
  fun {σ' H' v u} J rv q => ⟨v, H', J.os, J.bare, J.base, J.hok, rv, q⟩
 cases fl with
 | ret u =>
  obtain ⟨v, σ', H', J, rv, q⟩ := hs
  exact fin J rv q
 | next =>
  obtain ⟨σ', H', J, q⟩ := hs
  exact fin (v := V.non) (u := Value.none) J rfl q
 | brk =>
  obtain ⟨_, _, _, q⟩ := hs
  exact False.elim q
 | cont =>
  obtain ⟨_, _, _, q⟩ := hs
  exact False.elim q
end L2
namespace L2
open PySem PySem.Spec PyProof.Rows
section
variable {X : Cx} {x : Str} {p pos : Pos} {e : Expr} {es : List Expr} {t : TA} {id T : String} {r : List V → Hp → VK → Prop}
noncomputable def tCB (r : List V → Hp → VK → Prop) (t : TA) : TE := fun σ H Q => t σ H fun vs H1 => r vs H1 Q
theorem pe_callB (hc : CallR X (.builtin id) r) (hg : Gl X x) (hm : X.mg x = none) (hv : bootBuiltins x = some (.builtin id)) (ha : PA X (e :: es) t) (hn : x ≠ "__name__" := by decide) (hdb : (x == ("__debug__" : Str)) = false := by decide)
  (he : starEach (e :: es) X.env = (false, eval e X.env) :: starEach es X.env := by rfl) (hpl : (backTo pos (starEach es X.env)).any (·.1) = false := by rfl) : PE X (.Call (.Name x p) (e :: es) [] pos) (tCB r t) := by
 intro pins s σ H Q I h
 refine wpAny_Call_Name_kw (ld_blt I hg hm hv ?_ hn hdb)
 exact PyProof.Rows.callWith_builtin1 (thn (ha pos pins s σ H _ I h) fun us s1 ⟨vs, H1, I1, r1, q1⟩ => hc pins s1 σ H1 vs us Q I1 r1 q1) he hpl
theorem pe_callTy (hc : CallR X (.type T) r) (hg : Gl X x) (hm : X.mg x = none) (hv : bootBuiltins x = some (.type T)) (ha : PA X (e :: es) t) (hn : x ≠ "__name__" := by decide) (hdb : (x == ("__debug__" : Str)) = false := by decide)
  (he : starEach (e :: es) X.env = (false, eval e X.env) :: starEach es X.env := by rfl) (hpl : (backTo pos (starEach es X.env)).any (·.1) = false := by rfl) : PE X (.Call (.Name x p) (e :: es) [] pos) (tCB r t) := by
 intro pins s σ H Q I h
 refine wpAny_Call_Name_kw (ld_blt I hg hm hv ?_ hn hdb)
 exact PyProof.Rows.callWith_type1 (thn (ha pos pins s σ H _ I h) fun us s1 ⟨vs, H1, I1, r1, q1⟩ => hc pins s1 σ H1 vs us Q I1 r1 q1) he hpl
end
end L2
namespace HT
open PySem PyProof.Rows
noncomputable def lexLt : List Int → List Int → Bool
 | [], [] => false
 | [], _ :: _ => true
 | _ :: _, [] => false
 | x :: xs, y :: ys => if x = y then lexLt xs ys else decide (x < y)
theorem lexLt_cons (x y : Int) (xs ys : List Int) : lexLt (x :: xs) (y :: ys) = if x = y then lexLt xs ys else decide (x < y) := rfl
theorem lexLt_nil_nil : lexLt [] [] = false := rfl
section
variable {prog : Program} {w : World} {A : Around} {E : Value → Shared → Prop} {s : Shared}
noncomputable def sIx (n d : Nat) : Option Int → Nat
 | none => d
 | some v => if v < 0 then (v + (n : Int)).toNat else min v.toNat n
theorem sIx_none (n d : Nat) : sIx n d none = d := rfl
theorem sIx_nat (n d k : Nat) : sIx n d (some (k : Int)) = min k n := by
 show (if (k : Int) < 0 then ((k : Int) + (n : Int)).toNat else min (k : Int).toNat n) = min k n
 rw [if_neg (by omega), Int.toNat_natCast]
end
end HT
namespace L2
open PySem PySem.Spec PyProof.Rows
noncomputable abbrev TO := St → Hp → (Option Int → Hp → Prop) → Prop
noncomputable def PO (X : Cx) (e : Option Expr) (t : TO) : Prop :=
 ∀ (pins : List (Addr × Obj)) (s : Shared) (σ : St) (H : Hp) (Q : Option Int → Hp → Prop), Inv X pins σ H s → t σ H Q →
  wpAny (model X.prog X.w) X.A (evalPart e X.env) (fun u s' => ∃ o H', Inv X pins σ H' s' ∧ IsPart u o ∧ Q o H') X.xe s
noncomputable def tNoPart : TO := fun _ H Q => Q none H
noncomputable def tPart (t : TE) : TO := fun σ H Q => t σ H fun x H1 => ∃ i, x = .int i ∧ Q (some i) H1
theorem intsAre_of {ns : List Int} : ∀ {us : List Value}, Vals (ns.map V.int) us → IntsAre us ns := by
 induction ns with
 | nil => intro us r; rw [List.map_nil] at r; cases r; exact .nil
 | cons n ns ih =>
  intro us r
  rw [List.map_cons] at r
  cases r with
  | cons r1 r2 =>
   obtain ⟨t, e⟩ := r1
   subst e
   exact .cons n t (ih r2)
section
variable {X : Cx} {e : Expr} {te : TE} {lo hi : Option Expr} {tl th : TO} {pos p2 : Pos}
theorem po_none : PO X none tNoPart := by
 intro pins s σ H Q I h
 rw [evalPart_none]
 exact wpAny_pure ⟨none, H, I, .none, h⟩
theorem po_some (h : PE X e te) : PO X (some e) (tPart te) := by
 intro pins s σ H Q I hw
 rw [evalPart_some]
 refine thn (h pins s σ H _ I hw) fun u s1 ⟨x, H1, I1, r1, q1⟩ => ?_
 obtain ⟨i, rfl, q⟩ := q1
 obtain ⟨t, rfl⟩ := r1
 exact ⟨some i, H1, I1, .int i t, q⟩
noncomputable def SlR (X : Cx) (r : V → Option Int → Option Int → Hp → VK → Prop) : Prop :=
 ∀ (pins : List (Addr × Obj)) (s : Shared) (σ : St) (H : Hp) (x : V) (v vl vu : Value) (lo hi : Option Int) (sl : Addr) (Q : VK), Inv X pins σ H s → RelV x v → s.heap.IsSliceOf sl vl vu .none → IsPart vl lo → IsPart vu hi → r x lo hi H Q →
  ∃ T id, typeLookup (.type T) "__getitem__" = pure (some (.builtin id)) ∧ s.TypeIs v T ∧ wpAny (model X.prog X.w) X.A (getItem v (.ref sl)) (EP X pins σ Q) X.xe s
noncomputable def tSl (r : V → Option Int → Option Int → Hp → VK → Prop) (te : TE) (tl th : TO) : TE := fun σ H Q => te σ H fun x H1 => tl σ H1 fun l H2 => th σ H2 fun u H3 => r x l u H3 Q
theorem pe_slice {r : V → Option Int → Option Int → Hp → VK → Prop} (hr : SlR X r) (he : PE X e te) (hl : PO X lo tl) (hu : PO X hi th) : PE X (.Subscript e (.Slice lo hi none p2) pos) (tSl r te tl th) := by
 intro pins s σ H Q I h
 refine Subscript_ (thn (he pins s σ H _ I h) fun v s1 ⟨x, H1, I1, r1, q1⟩ => ?_)
 refine wpAny_Slice (thn (hl pins s1 σ H1 _ I1 q1) fun vl s2 ⟨l, H2, I2, pl, q2⟩ => thn (hu pins s2 σ H2 _ I2 q2) fun vu s3 ⟨u, H3, I3, pu, q3⟩ => ?_)
 rw [evalPart_none]
 refine wpAny_pure ?_
 have I4 : Inv X pins σ H3 { s3 with heap := s3.heap.push { cls := .type "slice", data := .fields #[vl, vu, .none] } } := I3.kept (t' := s3.toks) fun b ob q => Heap.get?_push_of_some _ q
 obtain ⟨T, id, hT, ht, hg⟩ := hr pins { s3 with heap := s3.heap.push { cls := .type "slice", data := .fields #[vl, vu, .none] } } σ H3 x v vl vu l u s3.heap.objs.size Q I4 r1 (Heap.IsSliceOf.new ..) pl pu q3
 show wpAny (model X.prog X.w) X.A (subscriptTail e (.Slice lo hi none p2) v (.ref s3.heap.objs.size)) (EP X pins σ Q) X.xe { s3 with heap := s3.heap.push { cls := .type "slice", data := .fields #[vl, vu, .none] } }
 exact tail_any (ops := [.ref s3.heap.objs.size, v]) ht hT hg (by with_unfolding_all rfl)
noncomputable def cutV (xs : List V) (lo hi : Option Int) : List V := (xs.drop (HT.sIx xs.length 0 lo)).take (HT.sIx xs.length xs.length hi - HT.sIx xs.length 0 lo)
theorem cutV_length (xs : List V) (lo hi : Option Int) : (cutV xs lo hi).length ≤ xs.length := by
 unfold cutV
 rw [List.length_take, List.length_drop]
 omega
end
end L2
namespace L2
open PySem PySem.Spec PyProof.Rows
noncomputable def ixN (n : Nat) (i : Int) : Option Nat := if 0 ≤ i then (if i < n then some i.toNat else none) else if -(n : Int) ≤ i then some (i + n).toNat else none
noncomputable def atI {α : Type} (xs : List α) (i : Int) : Option α := (ixN xs.length i).bind fun j => xs[j]?
theorem ixN_seq {n : Nat} {i : Int} {j : Nat} (h : ixN n i = some j) : seqIndex? i n = some j ∧ j < n ∧ -(n : Int) ≤ i ∧ i < n := by
 unfold ixN at h
 by_cases h0 : 0 ≤ i
 ·rw [if_pos h0] at h
  by_cases h1 : i < n
  ·rw [if_pos h1] at h
   have e : i.toNat = j := Option.some.inj h
   exact ⟨by rw [seqIndex_of h0 h1, e], by omega, by omega, h1⟩
  ·rw [if_neg h1] at h; cases h
 ·rw [if_neg h0] at h
  by_cases h1 : -(n : Int) ≤ i
  ·rw [if_pos h1] at h
   have e : (i + n).toNat = j := Option.some.inj h
   exact ⟨by rw [seqIndex_neg (by omega) h1, e], by omega, h1, by omega⟩
  ·rw [if_neg h1] at h; cases h
theorem atI_get {α : Type} {xs : List α} {i : Int} {v : α} (h : atI xs i = some v) : ∃ j, seqIndex? i xs.length = some j ∧ xs[j]? = some v ∧ j < xs.length ∧ -(xs.length : Int) ≤ i ∧ i < xs.length := by
 unfold atI at h
 cases e : ixN xs.length i with
 | none => rw [e] at h; cases h
 | some j =>
  rw [e] at h
  obtain ⟨h1, h2, h3, h4⟩ := ixN_seq e
  exact ⟨j, h1, h, h2, h3, h4⟩
theorem atI_nat {α : Type} {xs : List α} {j : Nat} {v : α} (h : xs[j]? = some v) : atI xs (j : Int) = some v := by
 have hj : j < xs.length := (List.getElem?_eq_some_iff.mp h).1
 have e : ixN xs.length (j : Int) = some j := by
  unfold ixN
  rw [if_pos (by omega), if_pos (by omega)]; simp
 unfold atI; rw [e]; exact h
noncomputable def PlainIx (b : Expr) : Prop := ∀ o i, subscripted b false o i = operate [o, i] (getItem o i)
noncomputable def IxR (X : Cx) (r : R2) : Prop :=
 ∀ (value slice : Expr) (pins : List (Addr × Obj)) (s : Shared) (σ : St) (H : Hp) (x y : V) (v u : Value) (Q : VK), Inv X pins σ H s → RelV x v → RelV y u → r x y H Q →
  subscripted slice false v u = operate [v, u] (getItem v u) → wpAny (model X.prog X.w) X.A (subscriptTail value slice v u) (EP X pins σ Q) X.xe s
noncomputable def MtR (X : Cx) (id : String) (r : V → List V → Hp → VK → Prop) : Prop :=
 ∀ (pins : List (Addr × Obj)) (s : Shared) (σ : St) (H : Hp) (x : V) (xs : List V) (v : Value) (us : List Value) (Q : VK), Inv X pins σ H s → RelV x v → Vals xs us → r x xs H Q →
  wpAny (model X.prog X.w) X.A (call (.builtin id) (v :: us)) (EP X pins σ Q) X.xe s
section
variable {X : Cx} {a b : Expr} {ta tb : TE} {pos : Pos}
theorem pe_ix {r : R2} (hr : IxR X r) (ha : PE X a ta) (hb : PE X b tb) (hs : PlainIx b) : PE X (.Subscript a b pos) (tOp r ta tb) := by
 intro pins s σ H Q I h
 exact Subscript_ (binT ha hb I h fun v u s2 x y H2 I2 rx ry q => hr a b pins s2 σ H2 x y v u Q I2 rx ry q (hs _ _))
noncomputable def rIxL (K : PySem.W.Frag) : R2 := fun x y H Q => ∃ p xs i v, x = .ref p ∧ y = .int i ∧ SqL K H p xs ∧ atI xs i = some v ∧ Q v H
noncomputable def rIxT (K : PySem.W.Frag) : R2 := fun x y H Q => ∃ p xs i v, x = .ref p ∧ y = .int i ∧ SqT K H p xs ∧ atI xs i = some v ∧ Q v H
theorem ix_list : IxR X (rIxL X.K) := by
 intro value slice pins s σ H x y v u Q I rx ry h hs
 obtain ⟨p, xs, i, z, rfl, rfl, hq, he, q⟩ := h
 cases rx
 obtain ⟨t, rfl⟩ := ry
 obtain ⟨its, r, pl, hz⟩ := I.list hq
 obtain ⟨j, h1, h2, h3, h4, h5⟩ := atI_get he
 obtain ⟨w, ew, rw'⟩ := r.get h2
 have hl := r.length
 have hn := line63
 have fin : EP X pins σ Q w s := ⟨z, H, I, rw', q⟩
 by_cases h0 : 0 ≤ i
 ·have hj : i.toNat = j := by
   rw [seqIndex_of h0 h5] at h1
   exact Option.some.inj h1
  exact item_listR pl.isList h0 (by omega) (by rw [hj]; simpa using ew) fin hs
 ·have hj : (i + (its.toArray.size : Int)).toNat = j := by
   rw [seqIndex_neg (by omega) h4] at h1
   rw [List.size_toArray, ← hl]
   exact Option.some.inj h1
  exact subscriptTail_builtinR (x := w) pl.isList.typeIs slot_list_getitem.lookup
   (wpAny_getItem_list_neg (Q := fun r s' => r = w ∧ EP X pins σ Q r s') pl.isList (by omega) (by rw [List.size_toArray] <;> omega) (by omega) (by rw [hj]; simpa using ew) ⟨rfl, fin⟩) hs
theorem ix_tup : IxR X (rIxT X.K) := by
 intro value slice pins s σ H x y v u Q I rx ry h hs
 obtain ⟨p, xs, i, z, rfl, rfl, hq, he, q⟩ := h
 cases rx
 obtain ⟨t, rfl⟩ := ry
 obtain ⟨its, r, pl, hz⟩ := I.tuple hq
 obtain ⟨j, h1, h2, h3, h4, h5⟩ := atI_get he
 obtain ⟨w, ew, rw'⟩ := r.get h2
 have hl := r.length
 have hn := line63
 have fin : EP X pins σ Q w s := ⟨z, H, I, rw', q⟩
 exact subscriptTail_builtinR (x := w) pl.typeIs slot_tuple_getitem.lookup
  (getItem_tuple (j := j) (Q := fun r s' => r = w ∧ EP X pins σ Q r s') pl (by omega) (by omega) (by rw [List.size_toArray, ← hl]; exact h1) (by simpa using ew) ⟨rfl, fin⟩) hs
theorem mapSeq_set (its : List Value) (n j : Nat) (u : Value) : Obj.mapSeq (·.setIfInBounds j u) { cls := .type "list", data := .seq its.toArray n } = { cls := .type "list", data := .seq (its.set j u).toArray n } := by
 simp [Obj.mapSeq]
theorem Inv.lst {pins : List (Addr × Obj)} {σ : St} {H : Hp} {s : Shared} {p : Addr} {xs : List V} (I : Inv X pins σ H s) (h : H p = some (.lst xs)) :
  ∃ (its : List Value) (n : Nat), Vals xs its ∧ s.heap.get? p = some { cls := .type "list", data := .seq its.toArray n } ∧ xs.length ≤ sizeLine := by
 obtain ⟨z, its, n, r, e⟩ := I.hok p _ h
 exact ⟨its, n, r, e, z⟩
theorem Inv.lstUpd {pins : List (Addr × Obj)} {σ : St} {H : Hp} {s : Shared} {p : Addr} {xs ys : List V} {its its' : List Value} {n n' : Nat} {f : Obj → Obj} (I : Inv X pins σ H s) (h : H p = some (.lst xs))
  (ho : s.heap.get? p = some { cls := .type "list", data := .seq its.toArray n }) (hf : f { cls := .type "list", data := .seq its.toArray n } = { cls := .type "list", data := .seq its'.toArray n' }) (r : Vals ys its') (hz : ys.length ≤ sizeLine) (t : Nat) :
  Inv X pins σ (upd H p (.lst ys)) { s with heap := s.heap.update p f, toks := t } := by
 have e : (s.heap.update p f).get? p = some { cls := .type "list", data := .seq its'.toArray n' } := by
  rw [Heap.get?_update_self f ho (by rw [hf] <;> rfl), hf]
 refine I.write (x := p) (e := p) (by rw [h]; trivial) (.inl rfl) (fun b u hb q => (Heap.get?_update_other _ _ (Ne.symm hb)).trans q) ⟨_, e⟩ ?_
 exact ⟨hz, its', n', r, e⟩
noncomputable def rSetL : V → V → V → Hp → (Hp → Prop) → Prop := fun o i v H Q => ∃ p xs k j, o = .ref p ∧ i = .int k ∧ H p = some (.lst xs) ∧ ixN xs.length k = some j ∧ Q (upd H p (.lst (xs.set j v)))
theorem set_list : PSet X rSetL := by
 intro pins s σ H o i v ov iv u Q I ro ri rv h
 obtain ⟨p, xs, k, j, rfl, rfl, hp, hj, q⟩ := h
 cases ro
 obtain ⟨t, rfl⟩ := ri
 obtain ⟨its, n, r, ho, hz⟩ := I.lst hp
 obtain ⟨h1, h2, h3, h4⟩ := ixN_seq hj
 have hl := r.length
 have hn := line63
 have I' : Inv X pins σ (upd H p (.lst (xs.set j v))) { s with heap := s.heap.update p (Obj.mapSeq (·.setIfInBounds j u)) } :=
  I.lstUpd hp ho (mapSeq_set its n j u) (r.set rv j) (by rw [List.length_set]; exact hz) s.toks
 by_cases h0 : 0 ≤ k
 ·have hk : k.toNat = j := by
   rw [seqIndex_of h0 h4] at h1
   exact Option.some.inj h1
  exact PySem.W.ki_setAt ho h0 (by omega) (by rw [List.size_toArray, ← hl]; exact h4) (by rw [hk]; exact ⟨_, I', q⟩)
 ·have hk : (k + (its.toArray.size : Int)).toNat = j := by
   rw [seqIndex_neg (by omega) h3] at h1
   rw [List.size_toArray, ← hl]
   exact Option.some.inj h1
  exact PySem.W.ki_setBack ho (by omega) (by rw [List.size_toArray, ← hl]; exact h3) (by omega) (by rw [hk]; exact ⟨_, I', q⟩)
theorem slice_bounds (lo hi : Option Int) (n : Nat) : (sliceBounds lo hi none n).1 = ((HT.sIx n 0 lo : Nat) : Int) ∧ (sliceBounds lo hi none n).2.1 = ((HT.sIx n n hi : Nat) : Int) ∧ (sliceBounds lo hi none n).2.2 = 1 := by
 refine ⟨?_, ?_, rfl⟩
 ·cases lo with
  | none => simp [sliceBounds, HT.sIx]
  | some i =>
   simp only [sliceBounds, HT.sIx, Option.getD_none, show (1 : Int) > 0 by decide, if_true]
   by_cases h : i < 0
   ·simp only [h, if_true] <;> omega
   ·simp only [h, if_false] <;> omega
 ·cases hi with
  | none => simp [sliceBounds, HT.sIx]
  | some i =>
   simp only [sliceBounds, HT.sIx, Option.getD_none, show (1 : Int) > 0 by decide, if_true]
   by_cases h : i < 0
   ·simp only [h, if_true] <;> omega
   ·simp only [h, if_false] <;> omega
theorem slicePick_cut (its : List Value) (lo hi : Option Int) : slicePick its.toArray lo hi none = ((its.drop (HT.sIx its.length 0 lo)).take (HT.sIx its.length its.length hi - HT.sIx its.length 0 lo)).toArray := by
 obtain ⟨h1, h2, h3⟩ := slice_bounds lo hi its.toArray.size
 unfold slicePick
 rw [h1, h2, h3]
 simp only [sliceRange_one, pick_run, List.size_toArray] <;> rfl
noncomputable def rSlL (K : PySem.W.Frag) : V → Option Int → Option Int → Hp → VK → Prop := fun x lo hi H Q => ∃ a xs, x = .ref a ∧ SqL K H a xs ∧ ∀ p, H p = none → Q (.ref p) (upd H p (.lst (cutV xs lo hi)))
theorem sl_list : SlR X (rSlL X.K) := by
 intro pins s σ H x v vl vu lo hi sl Q I rx hs pl pu h
 obtain ⟨a, xs, rfl, hx, q⟩ := h
 cases rx
 obtain ⟨its, r, ht, hz⟩ := I.list hx
 have hlen := r.length
 refine ⟨"list", _, slot_list_getitem.lookup, ht.isList.typeIs, ?_⟩
 refine wpAny_getItem_list_slice ht.isList hs pl pu .none (by simp) ?_ (by rw [List.size_toArray] <;> omega)
 rw [slicePick_cut, ← hlen]
 refine ⟨.ref s.heap.objs.size, _, I.laid (t' := s.toks) (o := .lst (cutV xs lo hi)) (fun b ob q => Heap.get?_push_of_some _ q) (Nat.le_refl _) ?_, rfl, q _ (I.hok.fresh (Nat.le_refl _))⟩
 exact ⟨Nat.le_trans (cutV_length xs lo hi) hz, _, 0, (r.drop (HT.sIx xs.length 0 lo)).take (HT.sIx xs.length xs.length hi - HT.sIx xs.length 0 lo), Heap.get?_push_size _ rfl⟩
noncomputable def flatV : V → Bool
 | .non => true
 | .bl _ => true
 | .int _ => true
 | .str _ => true
 | _ => false
noncomputable def eqV : V → V → Bool
 | .non, .non => true
 | .bl a, .bl b => a == b
 | .bl a, .int b => (if a then 1 else 0) == b
 | .int a, .bl b => a == (if b then 1 else 0)
 | .int a, .int b => a == b
 | .str a, .str b => a == b
 | _, _ => false
theorem eqAt_V {A : Around} {s : Shared} {y x : V} {u v : Value} (ry : RelV y u) (rx : RelV x v) (fy : flatV y = true) (fx : flatV x = true) : SeqAt.EqAt A s u v (eqV y x) := by
 cases y with
 | non =>
  cases ry
  cases x with
  | non => cases rx; exact SeqAt.EqAt.same _
  | bl b => cases rx; exact SeqAt.EqAt.none_bool b
  | int b => obtain ⟨t, rfl⟩ := rx; exact SeqAt.EqAt.none_int b t
  | str b => obtain ⟨t, rfl⟩ := rx; exact SeqAt.EqAt.none_str b t
  | _ => exact absurd (show false = true from fx) Bool.false_ne_true
 | bl a =>
  cases ry
  cases x with
  | non => cases rx; exact SeqAt.EqAt.bool_none a
  | bl b => cases rx; exact SeqAt.EqAt.bool_bool a b
  | int b => obtain ⟨t, rfl⟩ := rx; exact SeqAt.EqAt.bool_int a b t
  | str b => obtain ⟨t, rfl⟩ := rx; exact SeqAt.EqAt.bool_str a b t
  | _ => exact absurd (show false = true from fx) Bool.false_ne_true
 | int a =>
  obtain ⟨t', rfl⟩ := ry
  cases x with
  | non => cases rx; exact SeqAt.EqAt.int_none a t'
  | bl b => cases rx; exact SeqAt.EqAt.int_bool a t' b
  | int b => obtain ⟨t, rfl⟩ := rx; exact SeqAt.EqAt.int_int a t' b t
  | str b => obtain ⟨t, rfl⟩ := rx; exact SeqAt.EqAt.int_str a t' b t
  | _ => exact absurd (show false = true from fx) Bool.false_ne_true
 | str a =>
  obtain ⟨t', rfl⟩ := ry
  cases x with
  | non => cases rx; exact SeqAt.EqAt.str_none a t'
  | bl b => cases rx; exact SeqAt.EqAt.str_bool a t' b
  | int b => obtain ⟨t, rfl⟩ := rx; exact SeqAt.EqAt.str_int a t' b t
  | str b => obtain ⟨t, rfl⟩ := rx; exact SeqAt.EqAt.str_str a t' b t
  | _ => exact absurd (show false = true from fx) Bool.false_ne_true
 | _ => exact absurd (show false = true from fy) Bool.false_ne_true
noncomputable def eqU (x : V) (u : Value) : Bool := match u with
 | .none => eqV .non x
 | .bool b => eqV (.bl b) x
 | .int i _ => eqV (.int i) x
 | .str z _ => eqV (.str z) x
 | _ => false
theorem eqU_of {x y : V} {u : Value} (r : RelV y u) (f : flatV y = true) : eqU x u = eqV y x := by
 cases y with
 | non => cases r; rfl
 | bl b => cases r; rfl
 | int i => obtain ⟨t, rfl⟩ := r; rfl
 | str z => obtain ⟨t, rfl⟩ := r; rfl
 | _ => exact absurd (show false = true from f) Bool.false_ne_true
theorem any_eqU {x : V} : ∀ {xs : List V} {us : List Value}, Vals xs us → xs.all flatV = true → us.any (eqU x) = xs.any fun y => eqV y x
 | _, _, .nil, _ => rfl
 | y :: xs, u :: us, .cons r t, f => by
  rw [List.all_cons, Bool.and_eq_true] at f
  rw [List.any_cons, List.any_cons, eqU_of r f.1, any_eqU t f.2]
theorem mem_eqAt {A : Around} {s : Shared} {x : V} {v : Value} (rx : RelV x v) (fx : flatV x = true) : ∀ {xs : List V} {us : List Value}, Vals xs us → xs.all flatV = true → ∀ u ∈ us, SeqAt.EqAt A s u v (eqU x u)
 | _, _, .nil, _ => fun u hu => by cases hu
 | y :: xs, u :: us, .cons r t, f => fun u' hu => by
  rw [List.all_cons, Bool.and_eq_true] at f
  rcases List.mem_cons.mp hu with rfl | hu
  ·rw [eqU_of r f.1]; exact eqAt_V r rx f.1 fx
  ·exact mem_eqAt rx fx t f.2 u' hu
noncomputable def inV (x : V) (xs : List V) : Bool := xs.any fun y => eqV y x
noncomputable def rIn (K : PySem.W.Frag) (neg : Bool) : R2 := fun x y H Q => ∃ p xs, y = .ref p ∧ (SqL K H p xs ∨ SqT K H p xs) ∧ flatV x = true ∧ xs.all flatV = true ∧ Q (.bl (if neg then !inV x xs else inV x xs)) H
theorem op_notIn_seq : OpR X (compareOp .NotIn) (rIn X.K true) := by
 intro pins s σ H x y v u Q I rx ry h
 obtain ⟨p, xs, rfl, hq, fx, fs, q⟩ := h
 cases ry
 rcases hq with hq | hq
 ·obtain ⟨its, r, pl, hz⟩ := I.list hq
  refine SeqAt.notIn_listAt (eqU x) pl.isList (fun w hw => mem_eqAt rx fx r fs w (by simpa using hw)) ⟨.bl _, H, I, rfl, ?_⟩
  rw [show its.toArray.any (eqU x) = its.any (eqU x) by simp, any_eqU r fs]
  exact q
 ·obtain ⟨its, r, pl, hz⟩ := I.tuple hq
  refine SeqAt.notIn_tupleAt (eqU x) pl (fun w hw => mem_eqAt rx fx r fs w (by simpa using hw)) ⟨.bl _, H, I, rfl, ?_⟩
  rw [show its.toArray.any (eqU x) = its.any (eqU x) by simp, any_eqU r fs]
  exact q
theorem call_len_seq : CallR X (.builtin "len") (fun xs H Q => ∃ p ys, xs = [.ref p] ∧ (SqL X.K H p ys ∨ SqT X.K H p ys) ∧ Q (.int ys.length) H) := by
 intro pins s σ H xs us Q I r h
 obtain ⟨p, ys, rfl, hq, q⟩ := h
 obtain ⟨u, rfl, rx⟩ := vals1 r
 cases rx
 have hn := line63
 rcases hq with hq | hq
 ·obtain ⟨its, r', pl, hz⟩ := I.list hq
  have hlen := r'.length
  exact Calls.call_len_list pl.isList (by simp only [List.size_toArray] <;> omega) ⟨.int ys.length, H, I.tok _, ⟨s.toks + 1, by rw [List.size_toArray, hlen]⟩, q⟩
 ·obtain ⟨its, r', pl, hz⟩ := I.tuple hq
  have hlen := r'.length
  exact len_tuple pl (by simp only [List.size_toArray] <;> omega) ⟨.int ys.length, H, I.tok _, ⟨s.toks + 1, by rw [List.size_toArray, hlen]⟩, q⟩
noncomputable def tyV (K : PySem.W.Frag) (T : String) (x : V) (H : Hp) : Prop := match x with
 | .str _ => T = "str"
 | .int _ => T = "int"
 | .ref p => (T = "list" ∧ ∃ xs, SqL K H p xs) ∨ (T = "tuple" ∧ ∃ o, K.lookup p = some o ∧ o.cls = .type "tuple" ∧ o.dict = none) ∨
   (T = "dict" ∧ ((∃ kvs, H p = some (.dK kvs)) ∨ ∃ kvs, H p = some (.dT kvs))) ∨ (T = "set" ∧ ∃ S n, H p = some (.set S n))
 | _ => False
theorem tyV_is {pins : List (Addr × Obj)} {σ : St} {H : Hp} {s : Shared} {T : String} {x : V} {v : Value} (I : Inv X pins σ H s) (r : RelV x v) (ty : tyV X.K T x H) :
  s.TypeIs v T ∧ ∀ a, v = .ref a → ∃ ob, s.heap.get? a = some ob ∧ ob.dict = none := by
 cases x with
 | str z =>
  obtain ⟨t, rfl⟩ := r
  cases (show T = "str" from ty)
  exact ⟨typeIs_str s z t, fun _ e => nomatch e⟩
 | int i =>
  obtain ⟨t, rfl⟩ := r
  cases (show T = "int" from ty)
  exact ⟨typeIs_int s i t, fun _ e => nomatch e⟩
 | ref p =>
  cases r
  rcases ty with ⟨rfl, xs, hq⟩ | ⟨rfl, o, hk, hc, hd⟩ | ⟨rfl, hk⟩ | ⟨rfl, S, n, hk⟩
  ·obtain ⟨its, _, pl, _⟩ := I.list hq
   refine ⟨pl.isList.typeIs, fun a e => ?_⟩
   cases e
   obtain ⟨o, n, e, c, hd, _⟩ := pl
   exact ⟨o, e, hd⟩
  ·refine ⟨⟨o, I.kIn p o hk, hc⟩, fun a e => ?_⟩
   cases e
   exact ⟨o, I.kIn _ o hk, hd⟩
  ·have z : ∃ o, s.heap.get? p = some o ∧ o.ExactDict := by
    rcases hk with ⟨kvs, hk⟩ | ⟨kvs, hk⟩
    ·obtain ⟨_, _, _, _, o, _, _, e, ex, _⟩ := I.hok p _ hk
     exact ⟨o, e, ex⟩
    ·obtain ⟨_, _, _, _, o, _, _, e, ex, _⟩ := I.hok p _ hk
     exact ⟨o, e, ex⟩
   obtain ⟨o, e, ex⟩ := z
   refine ⟨⟨o, e, ex.1⟩, fun a e2 => ?_⟩
   cases e2
   exact ⟨o, e, ex.2.1⟩
  ·obtain ⟨o, _, _, _, e, ex, _⟩ := I.hok p _ hk
   refine ⟨⟨o, e, ex.1⟩, fun a e2 => ?_⟩
   cases e2
   exact ⟨o, e, ex.2.1⟩
 | _ => exact False.elim ty
noncomputable def tBM0 (K : PySem.W.Frag) (T : String) (r : V → List V → Hp → VK → Prop) (to : TE) : TE := fun σ H Q => to σ H fun x H1 => tyV K T x H1 ∧ r x [] H1 Q
noncomputable def tBM (K : PySem.W.Frag) (T : String) (r : V → List V → Hp → VK → Prop) (to : TE) (t : TA) : TE := fun σ H Q => to σ H fun x H1 => tyV K T x H1 ∧ t σ H1 fun xs H2 => r x xs H2 Q
variable {o e : Expr} {es : List Expr} {to : TE} {t : TA} {name : Str} {apos cpos : Pos} {T id : String} {r : V → List V → Hp → VK → Prop}
theorem pe_bm0 (pa : PlainAttrs T) (slot : Slot T name id) (hty : typeOf (.builtin id) = pure (.type "method_descriptor")) (hm : MtR X id r) (ho : PE X o to)
  (hbase : attributeBase o name X.env (eval o X.env) = eval o X.env := by rfl) (hline : (apos.endLine == cpos.line) = true := by rfl) : PE X (.Call (.Attribute o name apos) [] [] cpos) (tBM0 X.K T r to) := by
 intro pins s σ H Q I h
 refine wpAny_Call_method0_late hbase hline (thn (ho pins s σ H _ I h) fun v s1 ⟨x, H1, I1, r1, ty, q1⟩ => ?_)
 obtain ⟨h1, h2⟩ := tyV_is I1 r1 ty
 exact ⟨T, id, pa, slot, hty, h1, h2, Calls.callWith_builtin rfl (PySem.evalArgs_none (hm pins s1 σ H1 x [] v [] Q I1 r1 .nil q1))⟩
theorem pe_bm (pa : PlainAttrs T) (slot : Slot T name id) (hty : typeOf (.builtin id) = pure (.type "method_descriptor")) (hm : MtR X id r) (ho : PE X o to) (ha : PA X (e :: es) t)
  (hbase : attributeBase o name X.env (eval o X.env) = eval o X.env := by rfl)
  (hfew : ((backTo cpos (starEach (e :: es) X.env)).all (fun x => !x.1) && (backToKw cpos (keywordEach [] X.env)).all (fun x => x.1.isSome)
   && decide ((e :: es).length + ([] : List Keyword).length + (if ([] : List Keyword).isEmpty then 0 else 1) < 30)) = true := by rfl)
  (hline : (apos.endLine == cpos.line) = true := by rfl) (hs : starEach (e :: es) X.env = (false, eval e X.env) :: starEach es X.env := by rfl) (hplain : (backTo cpos (starEach es X.env)).any (·.1) = false := by rfl) :
  PE X (.Call (.Attribute o name apos) (e :: es) [] cpos) (tBM X.K T r to t) := by
 intro pins s σ H Q I h
 refine wpAny_Call_method_late hbase hfew hline rfl (thn (ho pins s σ H _ I h) fun v s1 ⟨x, H1, I1, r1, ty, q1⟩ => ?_)
 obtain ⟨h1, h2⟩ := tyV_is I1 r1 ty
 refine ⟨T, id, pa, slot, hty, h1, h2, ?_⟩
 have hA := ha cpos pins s1 σ H1 _ I1 q1
 rw [hs] at hA ⊢
 refine Calls.callWith_builtin (by show (false || (backTo cpos (starEach es X.env)).any (·.1)) = false; rw [hplain] <;> rfl) (Calls.evalArgs_plain ?_)
 exact thn hA fun us s2 ⟨vs, H2, I2, r2, q2⟩ => hm pins s2 σ H2 x vs v us Q I2 r1 r2 q2
end
end L2
namespace L2
open PySem PySem.Spec PyProof.Rows
noncomputable def MtM (X : Cx) (id : String) (r : V → List V → Hp → VK → Prop) : Prop :=
 ∀ (pins : List (Addr × Obj)) (s : Shared) (σ : St) (H : Hp) (x : V) (xs : List V) (v : Value) (us : List Value) (Q : VK), Inv X pins σ H s → RelV x v → Vals xs us → r x xs H Q →
  wpAny (model X.prog X.w) X.A (call (.builtin id) (v :: us)) (EP X pins σ Q) X.xe s
theorem Vals.one : ∀ {x : V} {us : List Value}, Vals [x] us → ∃ u, us = [u] ∧ RelV x u
 | _, _, .cons r .nil => ⟨_, rfl, r⟩
theorem Vals.two : ∀ {x y : V} {us : List Value}, Vals [x, y] us → ∃ u v, us = [u, v] ∧ RelV x u ∧ RelV y v
 | _, _, _, .cons r (.cons q .nil) => ⟨_, _, rfl, r, q⟩
theorem Vals.zero : ∀ {us : List Value}, Vals [] us → us = []
 | _, .nil => rfl
theorem Vals.dropLast {xs : List V} {us : List Value} (h : Vals xs us) : Vals xs.dropLast us.dropLast := by
 induction h with
 | nil => exact .nil
 | cons r t ih =>
  cases t with
  | nil => exact .nil
  | cons q t' => exact .cons r ih
theorem Vals.eraseIdx : ∀ {xs : List V} {us : List Value} (i : Nat), Vals xs us → Vals (xs.eraseIdx i) (us.eraseIdx i)
 | _, _, _, .nil => .nil
 | _, _, 0, .cons _ t => t
 | _, _, i + 1, .cons r t => .cons r (Vals.eraseIdx i t)
theorem Vals.reverse {xs : List V} {us : List Value} (h : Vals xs us) : Vals xs.reverse us.reverse := by
 induction h with
 | nil => exact .nil
 | cons r t ih => rw [List.reverse_cons, List.reverse_cons]; exact Vals.append ih (.cons r .nil)
theorem erase_last {α : Type} (l : List α) : l.eraseIdx (l.length - 1) = l.dropLast := by
 induction l with
 | nil => rfl
 | cons a r ih =>
  cases r with
  | nil => rfl
  | cons b r =>
   have e : (a :: b :: r).length - 1 = ((b :: r).length - 1) + 1 := by
    have h1 : (a :: b :: r).length = r.length + 2 := rfl
    have h2 : (b :: r).length = r.length + 1 := rfl
    omega
   rw [e, List.eraseIdx_cons_succ, ih]
   all_goals rfl
section
variable {X : Cx} {pins : List (Addr × Obj)} {σ : St} {H : Hp} {s : Shared} {l b : Addr} {xs ys zs : List V}
theorem Inv.lset {its its' : List Value} {n : Nat} {f : Array Value → Array Value} {t' : Nat} (I : Inv X pins σ H s) (hH : H l = some (.lst xs))
  (e : s.heap.get? l = some { cls := .type "list", data := .seq its.toArray n }) (hf : f its.toArray = its'.toArray) (hv : Vals ys its') (hz : ys.length ≤ sizeLine) :
  Inv X pins σ (upd H l (.lst ys)) { s with heap := s.heap.update l (Obj.mapSeq f), toks := t' } := by
 have q := PySem.IsL.update e f
 rw [hf] at q
 refine I.write (x := l) (e := l) (by rw [hH]; exact trivial) (.inl rfl) (fun b' u hb hu => (Heap.get?_update_other s.heap (Obj.mapSeq f) (Ne.symm hb)).trans hu) ⟨_, q⟩ ?_
 exact ⟨hz, its', _, hv, q⟩
theorem Inv.lnew {its : List Value} {t' : Nat} (I : Inv X pins σ H s) (hv : Vals ys its) (hz : ys.length ≤ sizeLine) :
  Inv X pins σ (upd H s.heap.objs.size (.lst ys)) { s with heap := s.heap.push { cls := .type "list", data := .seq its.toArray }, toks := t' } :=
 I.laid (fun _ _ q => Heap.get?_push_of_some _ q) (Nat.le_refl _) ⟨hz, its, 0, hv, Heap.get?_push_size _ rfl⟩
theorem Inv.fresh (I : Inv X pins σ H s) : H s.heap.objs.size = none := I.hok.fresh (Nat.le_refl _)
theorem Inv.lstM (I : Inv X pins σ H s) (hH : H l = some (.lst xs)) : xs.length ≤ sizeLine ∧ ∃ (its : List Value) (n : Nat), Vals xs its ∧ xs.length = its.length ∧ s.heap.get? l = some { cls := .type "list", data := .seq its.toArray n } := by
 obtain ⟨z, its, n, r, e⟩ := I.hok l _ hH
 exact ⟨z, its, n, r, r.length, e⟩
theorem notLongL {n : Nat} (h : n ≤ sizeLine) : Builtin.List.listTooLong n = false := by
 unfold Builtin.List.listTooLong
 exact decide_eq_false (by omega)
end
section
variable {X : Cx}
noncomputable def rAppend : V → List V → Hp → VK → Prop := fun x vs H Q => ∃ l xs y, x = .ref l ∧ vs = [y] ∧ H l = some (.lst xs) ∧ xs.length < sizeLine ∧ Q .non (upd H l (.lst (xs ++ [y])))
theorem mt_append : MtM X "list.append" rAppend := by
 intro pins s σ H x vs v us Q I rx rv h
 obtain ⟨l, xs, y, rfl, rfl, hH, hz, q⟩ := h
 cases rx
 obtain ⟨u, rfl, ru⟩ := rv.one
 obtain ⟨z, its, n, r, hl, e⟩ := I.lstM hH
 refine call_meets F.slot_list_append ⟨_, e, rfl⟩ F.entry_list_append (F.args_list_append_2 _ _) (PySem.list_append l its.toArray n u (by rw [List.size_toArray]; omega)) ⟨e, ?_⟩
 refine ⟨.non, _, I.lset (its' := its ++ [u]) hH e (by simp) (r.append (.cons ru .nil)) ?_, rfl, q⟩
 rw [List.length_append, List.length_singleton]
 omega
noncomputable def rExtend : V → List V → Hp → VK → Prop := fun x vs H Q => ∃ l b xs zs, x = .ref l ∧ vs = [.ref b] ∧ H l = some (.lst xs) ∧ H b = some (.lst zs) ∧ xs.length + zs.length ≤ sizeLine ∧ Q .non (upd H l (.lst (xs ++ zs)))
theorem mt_extend : MtM X "list.extend" rExtend := by
 intro pins s σ H x vs v us Q I rx rv h
 obtain ⟨l, b, xs, zs, rfl, rfl, hH, hB, hz, q⟩ := h
 cases rx
 obtain ⟨u, rfl, ru⟩ := rv.one
 cases ru
 obtain ⟨z, its, n, r, hl, e⟩ := I.lstM hH
 obtain ⟨z2, its2, n2, r2, hl2, e2⟩ := I.lstM hB
 have hsz : its.toArray.size + its2.toArray.size ≤ sizeLine := by rw [List.size_toArray, List.size_toArray]; omega
 have hlong : ¬ (!its.toArray.isEmpty && Builtin.List.listTooLong (its.toArray.size + its2.toArray.size)) = true := by
  rw [notLongL hsz, Bool.and_false]
  exact Bool.false_ne_true
 refine call_meets F.slot_list_extend ⟨_, e, rfl⟩ F.entry_list_extend (F.args_list_extend_2 _ _)
  (AutoSeq1.list_extend_list_list_0 l its.toArray n b its2.toArray n2 hlong (by rw [List.size_toArray]; omega) (by omega)) ⟨e, e2, ?_⟩
 refine ⟨.non, _, I.lset (its' := its ++ its2) hH e (by simp) (r.append r2) ?_, rfl, q⟩
 rw [List.length_append]
 omega
noncomputable def rPop : V → List V → Hp → VK → Prop := fun x vs H Q => ∃ l xs y, x = .ref l ∧ vs = [] ∧ H l = some (.lst xs) ∧ xs[xs.length - 1]? = some y ∧ Q y (upd H l (.lst xs.dropLast))
theorem mt_pop : MtM X "list.pop" rPop := by
 intro pins s σ H x vs v us Q I rx rv h
 obtain ⟨l, xs, y, rfl, rfl, hH, hy, q⟩ := h
 cases rx
 have hus := rv.zero
 subst hus
 obtain ⟨z, its, n, r, hl, e⟩ := I.lstM hH
 obtain ⟨u, hu, ru⟩ := r.get hy
 have hy' : its.toArray[its.toArray.size - 1]? = some u := by
  show its.toArray[its.length - 1]? = some u
  rw [← Array.getElem?_toList, ← hl]
  exact hu
 refine call_meets F.slot_list_pop ⟨_, e, rfl⟩ F.entry_list_pop (F.args_list_pop_1 _) (MeetsSeq.list_pop_last l its.toArray n u hy' (by rw [List.size_toArray]; omega)) ⟨e, ?_⟩
 refine ⟨y, _, I.lset (its' := its.dropLast) hH e ?_ r.dropLast ?_, ru, q⟩
 ·show its.toArray.eraseIdxIfInBounds (its.toArray.size - 1) = its.dropLast.toArray
  rw [List.size_toArray, List.eraseIdxIfInBounds_toArray, erase_last]
 ·rw [List.length_dropLast]
  omega
noncomputable def rClear : V → List V → Hp → VK → Prop := fun x vs H Q => ∃ l xs, x = .ref l ∧ vs = [] ∧ H l = some (.lst xs) ∧ Q .non (upd H l (.lst []))
theorem mt_clear : MtM X "list.clear" rClear := by
 intro pins s σ H x vs v us Q I rx rv h
 obtain ⟨l, xs, rfl, rfl, hH, q⟩ := h
 cases rx
 have hus := rv.zero
 subst hus
 obtain ⟨z, its, n, r, hl, e⟩ := I.lstM hH
 refine call_meets F.slot_list_clear ⟨_, e, rfl⟩ F.entry_list_clear (F.args_list_clear_1 _) (AutoSeq1.list_clear_list_0 l its.toArray n (by rw [List.size_toArray]; omega)) ⟨e, ?_⟩
 exact ⟨.non, _, I.lset (its' := []) (ys := []) hH e rfl .nil (Nat.zero_le _), rfl, q⟩
noncomputable def rCat : R2 := fun x y H Q => ∃ l b xs zs, x = .ref l ∧ y = .ref b ∧ H l = some (.lst xs) ∧ H b = some (.lst zs) ∧ xs.length + zs.length ≤ sizeLine ∧ ∀ p, H p = none → Q (.ref p) (upd H p (.lst (xs ++ zs)))
theorem op_cat : OpR X (binaryOp .Add) rCat := by
 intro pins s σ H x y v u Q I rx ry h
 obtain ⟨l, b, xs, zs, rfl, rfl, hH, hB, hz, q⟩ := h
 cases rx
 cases ry
 obtain ⟨z, its, n, r, hl, e⟩ := I.lstM hH
 obtain ⟨z2, its2, n2, r2, hl2, e2⟩ := I.lstM hB
 refine PySem.P.add_list e e2 ?_ (by rw [List.size_toArray, List.size_toArray]; omega)
 have ea : its.toArray ++ its2.toArray = (its ++ its2).toArray := by simp
 rw [ea]
 exact ⟨.ref _, _, I.lnew (t' := s.toks) (r.append r2) (by rw [List.length_append]; omega), rfl, q _ I.fresh⟩
end
end L2
namespace Att
open PySem PySem.W PySem.Calls PyProof.Rows
theorem ints_of_wellAll {P : Params} {h : Heap} : ∀ (ns : List Int) (vs : List Value), WellAll P h vs (ns.map WData.int) → IntsAre vs ns := by
 intro ns
 induction ns with
 | nil =>
  intro vs w
  rw [List.map_nil] at w
  cases w
  exact .nil
 | cons n ns ih =>
  intro vs w
  rw [List.map_cons] at w
  cases w with
  | cons a b =>
   cases a
   exact .cons _ _ (ih _ b)
theorem script_of {l : OpenLaw} {n : Nat} (hn : l.most = some n) {P : Params} {h : Heap} {args : List WData} {vals : List Value}
  (hpre : l.row.toRowW.claim.pre args = true) (hwl : WellAll P h vals args) :
  ∃ a vs ns, vals = [Value.ref a] ∧ args = [WData.list (ns.map WData.int)] ∧ h.get? a = some { cls := .type "list", data := .seq vs.toArray } ∧ IntsAre vs ns ∧ ns.length ≤ n := by
 have hsh : WShape.hasAll [] args [.list .int] = true := (pre_splitW hpre).1
 have hc : l.pre.holds [] { args := args } = true := (pre_splitW hpre).2
 obtain ⟨d, r, rfl, h1, h2⟩ := hasAllW_cons hsh
 obtain rfl := hasAllW_nil h2
 obtain ⟨xs, rfl, h3⟩ := hasW_list h1
 obtain ⟨ns, rfl⟩ := items_int h3
 have hlen : ns.length ≤ n := by
  unfold OpenLaw.pre at hc
  have h4 : (WTm.not (.lt (.lit (.int (n : Int))) (.len (.arg 0)))).holds [] { args := [.list (ns.map .int)] } = true := by
   have h4 := (holds_andW hc).1
   rw [hn] at h4
   exact h4
  have h5 := condW_of h4 (w_not (w_lt w_lit (w_len_list (w_arg rfl))))
  rw [List.length_map] at h5
  refine Nat.le_of_not_lt fun q => ?_
  have q' : (n : Int) < ((ns.length : Nat) : Int) := by omega
  first
   | (rw [decide_eq_true q'] at h5; exact absurd h5 (by decide))
   | (simp at h5; omega)
 cases hwl with
 | cons w1 w2 =>
  cases w2
  cases w1 with
  | list ho hall => exact ⟨_, _, ns, rfl, rfl, ho, ints_of_wellAll ns _ hall, hlen⟩
theorem post_true (l : OpenLaw) (args : List WData) : l.row.toRowW.claim.post args (.bool true) args = true :=
 postW_of (r := l.row.toRowW) (X := (true == true))
  (show WShape.has [] (.bool true) .bool = true by first | rfl | decide | simp [WShape.has, WShape.arms, WShape.armsAll])
  (show (WTm.eq .res (.lit (.bool true))).value [] { args := args, res := some (.bool true), after := args } = some (.bool (true == true)) from w_eq_bool (w_res rfl) w_lit) rfl
theorem attach_call {l : OpenLaw} {n : Nat} {q : Program} {loose : List Str} {XP : (Str → Option Value) → Heap → Prop} {YP : World → Heap → Prop} {d : DefRec}
  (hn : l.most = some n) (hdf : d.params.defaults = [])
  (call : ∀ (w : World) (s₀ s₁ : Shared) (mg mb : Str → Option Value) (fa : Addr) (o : Obj) (pm cd doc : Value) (a : Addr) (vs : List Value) (ns : List Int),
   Ground q loose [] XP w s₀ mg mb s₁.heap → YP w s₁.heap →
   s₁.heap.get? fa = some o → o.data = .func (docDef d.name d.params d.body d.scope pm cd doc) → s₁.heap.CodeRec cd d.name → mg d.name = some (.ref fa) →
   s₁.heap.get? a = some { cls := .type "list", data := .seq vs.toArray } → IntsAre vs ns → ns.length ≤ n → s₁.gens = #[] →
   codeAny (model l.prog w) callerA (.call (.ref fa) ⟨[.ref a], []⟩) (fun r s' => r = .ok (.ret (.bool true)) ∧ OldK s₁.heap s'.heap ∧ s'.os = s₁.os ∧ AllBare s'.gens) s₁) :
  WalkO q loose XP YP l.row.toRowW d [] (fun f vs => PySem.call f vs) := by
 intro w s₀ s₁ mg mb G Y fa o pm cd doc dV kV ho hd hcd hD hmg hg args vals as hpre hlay hrd hwl hlo
 obtain rfl : dV = .none := Dflts.none hD hdf
 obtain rfl : kV = .none := Dflts.noKw hD
 obtain ⟨a, vs, ns, rfl, rfl, hobj, hints, hlen⟩ := script_of hn hpre hwl
 refine enter_call (codeAny_mono (call w s₀ s₁ mg mb fa o pm cd doc a vs ns G Y ho (fd_plain hd) hcd hmg hobj hints hlen hg) fun r s' hq => ?_)
 obtain ⟨rfl, h2, h3, h4⟩ := hq
 exact ⟨.inl ⟨.bool true, .bool true, [], rfl, fun _ => rfl, .bool true, post_true l _, fun _ => ⟨List.Pairwise.nil, fun _ hm => (nomatch hm)⟩⟩, h2, h3, h4⟩
end Att
namespace L2
open PySem PySem.Spec PyProof.Rows
theorem vals_ints : ∀ {vs : List Value} {ns : List Int}, IntsAre vs ns → Vals (ns.map V.int) vs
 | _, _, .nil => .nil
 | _, _, .cons n t h => .cons ⟨t, rfl⟩ (vals_ints h)
end L2
namespace L2
open PySem PySem.Spec PyProof.Rows
noncomputable def defArgs (s : Stmt) : Arguments := match s with
 | .FunctionDef _ a _ _ _ _ _ _ _ _ => a
 | _ => { posonlyargs := [], args := [], vararg := none, kwonlyargs := [], kw_defaults := [], kwarg := none, defaults := [] }
noncomputable def defBody (s : Stmt) : List Stmt := match s with
 | .FunctionDef _ _ b _ _ _ _ _ _ _ => b
 | _ => []
noncomputable def defScope (s : Stmt) : Scope := match s with
 | .FunctionDef _ _ _ _ _ _ sc _ _ _ => sc
 | _ => { kind := .function, names := [], isGenerator := false, isCoroutine := false }
noncomputable abbrev CX0 : CXT := fun _ _ _ _ _ _ => False
noncomputable abbrev E0 : XK := fun _ _ _ => False
structure Fun (K : PySem.W.Frag) (x qual : Str) (st : Stmt) (f : Addr) (fd : FuncData) : Prop where
 ex : ∃ (oc : Value) (od : Option Addr) (kV doc pm : Value) (an : Option Addr) (cdv ct : Value) (osl : Array (Option Value)),
  fd = PySem.W.fnOf x qual (defArgs st) (defBody st) (defScope st) .none kV doc pm an cdv ct ∧ K.lookup f = some ⟨oc, od, .func fd, osl⟩ ∧ PySem.W.codeIn K cdv qual = true
 kp : PySem.W.keepIn K (.ref f) = true
section
variable {P : Program} {w : World} {K : PySem.W.Frag} {mg : Str → Option Value} {base : Heap}
theorem Fun.ok {x qual : Str} {st : Stmt} {f : Addr} {fd : FuncData} {N ps : List Str} {k : Nat} {sp : Sp} (F : Fun K x qual st f fd) (S : FnScope N ps (defScope st)) (len : ∀ vs H Q E, sp vs H Q E → vs.length = ps.length)
  (hbody : ∀ (cdv : Value) (A : Around) (outer : List Env) (s : Shared) (H : Hp) (vs : List V) (Q : VK) (E : XK), Room k (A.deeper (envOfC qual (defScope st) s.heap.objs.size f cdv)) → sp vs H Q E →
   ∃ t, PSs (cxOf CX0 P w K mg base N qual (defScope st) f cdv A outer s H E).nox (defBody st) t ∧ t { nx := fun _ H' => Q .non H', rt := Q } (start N vs) H) : FnOk P w K mg base CX0 (k + 1) f fd ps sp := by
 obtain ⟨oc, od, kV, doc, pm, an, cdv, ct, osl, rfl, lk, hcd⟩ := F.ex
 refine fn_of lk hcd S len fun A outer s H vs Q E hr hsp => ?_
 obtain ⟨t, h, q⟩ := hbody cdv A outer s H vs Q E hr hsp
 exact ⟨t, h.nox, q⟩
theorem Fun.binds {x qual : Str} {st : Stmt} {f : Addr} {fd : FuncData} {ps : List Str} (F : Fun K x qual st f fd)
  (h : ∀ (kV doc pm : Value) (an : Option Addr) (cdv ct : Value) (us : List Value), us.length = ps.length → bindArgs (PySem.W.fnOf x qual (defArgs st) (defBody st) (defScope st) .none kV doc pm an cdv ct) ⟨us, []⟩ = pure (ps.zip us)) : Binds K fd ps [] := by
 obtain ⟨oc, od, kV, doc, pm, an, cdv, ct, osl, rfl, lk, hcd⟩ := F.ex
 exact .all (h kV doc pm an cdv ct)
theorem fun_mk {x qual : Str} {st : Stmt} {f : Addr} {oc : Value} {od an : Option Addr} {osl : Array (Option Value)} {kV doc pm cdv ct : Value} (l : K.lookup f = some ⟨oc, od, .func (PySem.W.fnOf x qual (defArgs st) (defBody st) (defScope st) .none kV doc pm an cdv ct), osl⟩)
  (c : PySem.W.codeIn K cdv qual = true) (k : PySem.W.keepIn K (.ref f) = true) : Fun K x qual st f (PySem.W.fnOf x qual (defArgs st) (defBody st) (defScope st) .none kV doc pm an cdv ct) := ⟨⟨oc, od, kV, doc, pm, an, cdv, ct, osl, rfl, l, c⟩, k⟩
end
theorem hu_of {A : Around} {k : Nat} (hr : Room k A) : A.units + 1 < cLine := Nat.lt_of_le_of_lt (Nat.add_le_add_left (by decide : 1 ≤ 64) _) hr.units
section
variable {X : Cx}
theorem pv (i : Nat) {x : Str} {pos : Pos} (hN : X.N[i]? = some x := by rfl) (hv : Vis X.env.scope x := by first | exact Or.inl rfl | exact Or.inr (Or.inl rfl) | exact Or.inr (Or.inr rfl)) (hd : (x == ("__debug__" : Str)) = false := by decide)
  (hcd : (x == ("__classdict__" : Str)) = false := by decide) : PE X (.Name x pos) (tVar i) := pe_var hN hv hd hcd
end
noncomputable def Same (H H' : Hp) : Prop := ∀ b o, H b = some o → H' b = some o
theorem Same.refl (H : Hp) : Same H H := fun _ _ h => h
theorem Same.trans {H H1 H2 : Hp} (a : Same H H1) (b : Same H1 H2) : Same H H2 := fun c o h => b c o (a c o h)
theorem Same.free {H H' : Hp} (e : Same H H') {l : Addr} (h : H' l = Option.none) : H l = Option.none := by
 cases q : H l with
 | none => rfl
 | some o =>
  rw [e l o q] at h
  cases h
theorem Same.seq {K : PySem.W.Frag} {H H' : Hp} {a : Addr} {xs : List V} (e : Same H H') (h : SqL K H a xs) : SqL K H' a xs := by
 rcases h with (h | ⟨o, h⟩) | h
 ·exact .inl (.inl (e _ _ h))
 ·exact .inl (.inr ⟨o, e _ _ h⟩)
 ·exact .inr h
end L2
set_option Elab.async false
set_option linter.all false
set_option maxRecDepth 100000
namespace L2
open PySem PySem.Spec PyProof.Rows
section
variable {κ : Type} [DecidableEq κ]
noncomputable def valV (kvs : List (κ × V)) (k : κ) : Option V := (kvs.find? fun kv => decide (kv.1 = k)).map (·.2)
noncomputable def putK (kvs : List (κ × V)) (k : κ) (v : V) : List (κ × V) :=
 if (kvs.any fun kv => decide (kv.1 = k)) = true then kvs.map (fun kv => if kv.1 = k then (kv.1, v) else kv) else kvs ++ [(k, v)]
noncomputable def dropK (kvs : List (κ × V)) (k : κ) : List (κ × V) := kvs.filter fun kv => decide (kv.1 ≠ k)
theorem valV_pos {p : κ × V} {r : List (κ × V)} {k : κ} (e : p.1 = k) : valV (p :: r) k = some p.2 := by simp [valV, List.find?_cons, e]
theorem valV_neg {p : κ × V} {r : List (κ × V)} {k : κ} (e : ¬ p.1 = k) : valV (p :: r) k = valV r k := by simp [valV, List.find?_cons, e]
theorem valV_any (k : κ) : ∀ kvs : List (κ × V), (kvs.any fun kv => decide (kv.1 = k)) = (valV kvs k).isSome
 | [] => rfl
 | p :: r => by
  rw [List.any_cons]
  by_cases e : p.1 = k
  ·simp only [valV_pos e, decide_eq_true e, Bool.true_or, Option.isSome_some]
  ·rw [valV_neg e, decide_eq_false e, Bool.false_or]; exact valV_any k r
theorem length_putK (kvs : List (κ × V)) (k : κ) (v : V) : (putK kvs k v).length ≤ kvs.length + 1 := by
 unfold putK
 split
 ·rw [List.length_map]; omega
 ·rw [List.length_append, List.length_cons, List.length_nil]; omega
theorem putK_new {kvs : List (κ × V)} {k : κ} (v : V) (h : valV kvs k = none) : putK kvs k v = kvs ++ [(k, v)] := by
 unfold putK
 rw [valV_any, h]
 exact if_neg (by decide)
theorem RelO.isSome_eq {o : Option V} {u : Option Value} (r : RelO o u) : o.isSome = u.isSome := by
 cases o with
 | none => cases u with
  | none => rfl
  | some _ => exact (show False from r).elim
 | some _ => cases u with
  | none => exact (show False from r).elim
  | some _ => rfl
theorem RelO.getD {o : Option V} {u : Option Value} {d : V} {d' : Value} (r : RelO o u) (rd : RelV d d') : RelV (o.getD d) (u.getD d') := by
 cases o with
 | none => cases u with
  | none => exact rd
  | some _ => exact (show False from r).elim
 | some _ => cases u with
  | none => exact (show False from r).elim
  | some _ => exact r
theorem KV.val {kvs : List (κ × V)} {vs : List (κ × Value)} (r : KV kvs vs) (k : κ) : RelO (valV kvs k) (valueAt vs k) := by
 unfold KV at r
 induction r with
 | nil => exact True.intro
 | @cons p q ps qs h t ih =>
  obtain ⟨h1, h2⟩ := h
  by_cases e : p.1 = k
  ·have e' : q.1 = k := h1.symm.trans e
   have b : valueAt (q :: qs) k = some q.2 := by simp [valueAt, List.find?_cons, e']
   rw [valV_pos e, b]; exact h2
  ·have e' : ¬ q.1 = k := fun z => e (h1.trans z)
   have b : valueAt (q :: qs) k = valueAt qs k := by simp [valueAt, List.find?_cons, e']
   rw [valV_neg e, b]; exact ih
theorem KV.any {kvs : List (κ × V)} {vs : List (κ × Value)} (r : KV kvs vs) (k : κ) : (kvs.any fun kv => decide (kv.1 = k)) = vs.any fun kv => decide (kv.1 = k) := by
 unfold KV at r
 induction r with
 | nil => rfl
 | cons h t ih => rw [List.any_cons, List.any_cons, ih, h.1]
theorem KV.repl {kvs : List (κ × V)} {vs : List (κ × Value)} (r : KV kvs vs) (k : κ) {y : V} {u : Value} (ry : RelV y u) :
  KV (kvs.map fun kv => if kv.1 = k then (kv.1, y) else kv) (vs.map fun kv => if kv.1 = k then (kv.1, u) else kv) := by
 unfold KV at r ⊢
 induction r with
 | nil => exact .nil
 | @cons p q ps qs h t ih =>
  rw [List.map_cons, List.map_cons]
  refine .cons ?_ ih
  obtain ⟨h1, h2⟩ := h
  by_cases e : p.1 = k
  ·rw [if_pos e, if_pos (h1.symm.trans e)]; exact ⟨h1, ry⟩
  ·rw [if_neg e, if_neg (fun z => e (h1.trans z))]; exact ⟨h1, h2⟩
theorem KV.put {kvs : List (κ × V)} {vs : List (κ × Value)} (r : KV kvs vs) (k : κ) {y : V} {u : Value} (ry : RelV y u) : KV (putK kvs k y) (stored vs k u) := by
 unfold putK stored
 rw [r.any k]
 by_cases e : (vs.any fun kv => decide (kv.1 = k)) = true
 ·rw [if_pos e, if_pos e]; exact r.repl k ry
 ·rw [if_neg e, if_neg e]; exact Paired.snoc r ⟨rfl, ry⟩
theorem KV.drop {kvs : List (κ × V)} {vs : List (κ × Value)} (r : KV kvs vs) (k : κ) : KV (dropK kvs k) (without vs k) := by
 unfold KV at r ⊢
 unfold dropK without
 induction r with
 | nil => exact .nil
 | @cons p q ps qs h t ih =>
  obtain ⟨h1, h2⟩ := h
  rw [List.filter_cons, List.filter_cons]
  by_cases e : p.1 = k
  ·have a : ¬ decide (p.1 ≠ k) = true := by simp [e]
   have b : ¬ decide (q.1 ≠ k) = true := by simp [h1.symm.trans e]
   rw [if_neg a, if_neg b]; exact ih
  ·have e' : ¬ q.1 = k := fun z => e (h1.trans z)
   have a : decide (p.1 ≠ k) = true := by simp [e]
   have b : decide (q.1 ≠ k) = true := by simp [e']
   rw [if_pos a, if_pos b]; exact .cons ⟨h1, h2⟩ ih
theorem KV.keys {kvs : List (κ × V)} {vs : List (κ × Value)} (r : KV kvs vs) : kvs.map (·.1) = vs.map (·.1) := by
 unfold KV at r
 induction r with
 | nil => rfl
 | cons h t ih => rw [List.map_cons, List.map_cons, ih, h.1]
theorem KV.length {kvs : List (κ × V)} {vs : List (κ × Value)} (r : KV kvs vs) : kvs.length = vs.length := Paired.length r
end
theorem kV_is {P : Program} {w : World} {k : Key} {u : Value} (r : RelV (kV k) u) : (mixKind P w).is k u = true := by
 cases k with
 | inl i => obtain ⟨t, e⟩ := (show ∃ t, u = Value.int i t from r); subst e; exact mixKind_int P w i t
 | inr x => obtain ⟨t, e⟩ := (show ∃ t, u = Value.str x t from r); subst e; exact mixKind_str P w x t
theorem items_are {P : Program} {w : World} : ∀ {ks : List Key} {us : List Value}, Vals (ks.map kV) us → ItemsAre (mixKind P w) ks us
 | [], _, r => by rw [List.map_nil] at r; cases r; exact .nil
 | k :: ks, _, r => by
  rw [List.map_cons] at r
  cases r with
  | cons h t => exact .cons (kV_is h) (items_are t)
noncomputable abbrev KT (H : Hp) : List (List Key × V) → List (List Key × Addr × Value) → Prop := Paired fun p q => p.1 = q.1 ∧ H q.2.1 = some (.tup (p.1.map kV)) ∧ RelV p.2 q.2.2
theorem KT.val {H : Hp} {kvs : List (List Key × V)} {xs : List (List Key × Addr × Value)} (r : KT H kvs xs) (k : List Key) : RelO (valV kvs k) ((atKey xs k).map (·.2)) := by
 induction r with
 | nil => exact True.intro
 | @cons p q ps qs h t ih =>
  obtain ⟨h1, _, h2⟩ := h
  by_cases e : p.1 = k
  ·have e' : q.1 = k := h1.symm.trans e
   have b : atKey (q :: qs) k = some q.2 := by simp [atKey, List.find?_cons, e']
   rw [valV_pos e, b]; exact h2
  ·have e' : ¬ q.1 = k := fun z => e (h1.trans z)
   have b : atKey (q :: qs) k = atKey qs k := by simp [atKey, List.find?_cons, e']
   rw [valV_neg e, b]; exact ih
theorem KT.repl {H : Hp} {kvs : List (List Key × V)} {xs : List (List Key × Addr × Value)} (r : KT H kvs xs) (k : List Key) {y : V} {u : Value} (ry : RelV y u) :
  KT H (kvs.map fun kv => if kv.1 = k then (kv.1, y) else kv) (xs.map (putAt k u)) := by
 induction r with
 | nil => exact .nil
 | @cons p q ps qs h t ih =>
  rw [List.map_cons, List.map_cons]
  refine .cons ?_ ih
  obtain ⟨h1, h2, h3⟩ := h
  unfold putAt
  by_cases e : p.1 = k
  ·rw [if_pos e, if_pos (h1.symm.trans e)]; exact ⟨h1, h2, ry⟩
  ·rw [if_neg e, if_neg (fun z => e (h1.trans z))]; exact ⟨h1, h2, h3⟩
theorem KT.put {H : Hp} {kvs : List (List Key × V)} {xs : List (List Key × Addr × Value)} (r : KT H kvs xs) (k : List Key) {b : Addr} {y : V} {u : Value} (hb : H b = some (.tup (k.map kV))) (ry : RelV y u) :
  KT H (putK kvs k y) (storedH xs k b u) := by
 have e : (kvs.any fun kv => decide (kv.1 = k)) = (atKey xs k).isSome := by
  rw [valV_any, (r.val k).isSome_eq, Option.isSome_map]
 unfold putK storedH
 rw [e]
 by_cases q : (atKey xs k).isSome = true
 ·rw [if_pos q, if_pos q]; exact r.repl k ry
 ·rw [if_neg q, if_neg q]; exact Paired.snoc r ⟨rfl, hb, ry⟩
theorem KT.keeps {H H' : Hp} {kvs : List (List Key × V)} {xs : List (List Key × Addr × Value)} (r : KT H kvs xs) (ht : ∀ b ys, H b = some (.tup ys) → H' b = some (.tup ys)) : KT H' kvs xs :=
 Paired.mapP r fun _ _ z => ⟨z.1, ht _ _ z.2.1, z.2.2⟩
section
variable {P : Program} {w : World} {H : Hp} {h : Heap} {a : Addr}
theorem rd_of {u : HO} (ok : HOk P w H h) (e : Rd H a u) : ObjOk P w H h a u := e.ok ok
theorem dk_rd {kvs : List (Key × V)} (ok : HOk P w H h) (e : Rd H a (.dK kvs)) : kvs.length ≤ sizeLine ∧ (a == sysModules) = false ∧ ∃ vs, KV kvs vs ∧ h.DictOf (mixKind P w) a vs :=
 show ObjOk P w H h a (.dK kvs) from rd_of ok e
theorem dk_of {kvs : List (Key × V)} (ok : HOk P w H h) (e : H a = some (.dK kvs)) : kvs.length ≤ sizeLine ∧ (a == sysModules) = false ∧ ∃ vs, KV kvs vs ∧ h.DictOf (mixKind P w) a vs := dk_rd ok (.inl e)
theorem key_of {ks : List Key} (ok : HOk P w H h) (e : H a = some (.tup (ks.map kV))) : (tupleKind (mixKind P w)).is h ks a := by
 obtain ⟨_, its, r, o, h1, h2, n, h3⟩ := (show ObjOk P w H h a (.tup (ks.map kV)) from ok a _ e)
 exact ⟨o, its.toArray, n, h1, h2, h3, by simpa using items_are r⟩
theorem dt_rd {kvs : List (List Key × V)} (ok : HOk P w H h) (e : Rd H a (.dT kvs)) : kvs.length ≤ sizeLine ∧ (a == sysModules) = false ∧
  ∃ xs, KT H kvs xs ∧ h.DictOfH (tupleKind (mixKind P w)) a xs := by
 obtain ⟨z, y, xs, r, o, es, ep, h1, h2, h3, h4, h5⟩ := (show ObjOk P w H h a (.dT kvs) from rd_of ok e)
 refine ⟨z, y, xs, r, o, es, ep, h1, h2, h3, h4, fun x hx => ?_, h5⟩
 have all : ∀ {l : List (List Key × V)} {m : List (List Key × Addr × Value)}, KT H l m → ∀ x ∈ m, (tupleKind (mixKind P w)).is h x.1 x.2.1 := by
  intro l m q
  induction q with
  | nil => intro x hx; exact nomatch hx
  | @cons p q ps qs hq t ih =>
   intro x hx
   rcases List.mem_cons.mp hx with e | hx
   ·subst e
    exact key_of ok (by rw [← hq.1]; exact hq.2.1)
   ·exact ih x hx
 exact all r x hx
theorem dt_of {kvs : List (List Key × V)} (ok : HOk P w H h) (e : H a = some (.dT kvs)) : kvs.length ≤ sizeLine ∧ (a == sysModules) = false ∧
  ∃ xs, KT H kvs xs ∧ h.DictOfH (tupleKind (mixKind P w)) a xs := dt_rd ok (.inl e)
end
noncomputable def DGet (H : Hp) (a : Addr) (y : V) (r : Option V) : Prop :=
 (∃ kvs k, Rd H a (.dK kvs) ∧ y = kV k ∧ r = valV kvs k) ∨ ∃ kvs k b, Rd H a (.dT kvs) ∧ y = .ref b ∧ H b = some (.tup (k.map kV)) ∧ r = valV kvs k
noncomputable def DPut (H : Hp) (a : Addr) (y v : V) (H' : Hp) : Prop :=
 (∃ kvs k, H a = some (.dK kvs) ∧ y = kV k ∧ kvs.length < sizeLine ∧ H' = upd H a (.dK (putK kvs k v))) ∨
 ∃ kvs k b, H a = some (.dT kvs) ∧ y = .ref b ∧ H b = some (.tup (k.map kV)) ∧ kvs.length < sizeLine ∧ H' = upd H a (.dT (putK kvs k v))
theorem DGet.k {H : Hp} {a : Addr} {kvs : List (Key × V)} {k : Key} (e : H a = some (.dK kvs)) : DGet H a (kV k) (valV kvs k) := .inl ⟨kvs, k, .inl e, rfl, rfl⟩
theorem DGet.t {H : Hp} {a b : Addr} {kvs : List (List Key × V)} {k : List Key} (e : H a = some (.dT kvs)) (eb : H b = some (.tup (k.map kV))) : DGet H a (.ref b) (valV kvs k) := .inr ⟨kvs, k, b, .inl e, rfl, eb, rfl⟩
theorem DPut.k {H : Hp} {a : Addr} {kvs : List (Key × V)} {k : Key} {v : V} (e : H a = some (.dK kvs)) (hl : kvs.length < sizeLine) : DPut H a (kV k) v (upd H a (.dK (putK kvs k v))) := .inl ⟨kvs, k, e, rfl, hl, rfl⟩
theorem DPut.t {H : Hp} {a b : Addr} {kvs : List (List Key × V)} {k : List Key} {v : V} (e : H a = some (.dT kvs)) (eb : H b = some (.tup (k.map kV))) (hl : kvs.length < sizeLine) :
  DPut H a (.ref b) v (upd H a (.dT (putK kvs k v))) := .inr ⟨kvs, k, b, e, rfl, eb, hl, rfl⟩
section
variable {X : Cx} {pins : List (Addr × Obj)} {σ : St} {H : Hp} {s : Shared} {a : Addr} {y v : V} {u r : Value} {o : Option V} {A : Around} {E : Value → Shared → Prop}
theorem Inv.big (I : Inv X pins σ H s) : sysModules < s.heap.objs.size := by
 have h : mainGlobals < s.heap.objs.size := (I.mod.glob.keeps I.bk).lt
 exact Nat.lt_trans (by decide) h
theorem d_write {h' : Heap} {t' : Nat} {ob : HO} (I : Inv X pins σ H s) (mu : Mut (H a)) (hs : Heap.SameBut a s.heap h') (he : ∃ q, h'.get? a = some q) (new : ObjOk X.prog X.w (upd H a ob) h' a ob) :
  Inv X pins σ (upd H a ob) { s with heap := h', toks := t' } :=
 I.write (x := a) (e := a) mu (.inl rfl) (fun b q hb z => (hs.2 b hb).trans z) he new
theorem dk_new {P : Program} {w : World} {H' : Hp} {h' : Heap} {kvs : List (Key × V)} {vs : List (Key × Value)} (z : kvs.length ≤ sizeLine) (hd : (a == sysModules) = false) (rel : KV kvs vs) (dd : h'.DictOf (mixKind P w) a vs) :
  ObjOk P w H' h' a (.dK kvs) := ⟨z, hd, vs, rel, dd⟩
theorem d_setItem {H' : Hp} {Q : Unit → Shared → Prop} (hu : A.units + 1 < cLine) (I : Inv X pins σ H s) (g : DPut H a y v H') (ry : RelV y u) (rv : RelV v r) (h : ∀ s', Inv X pins σ H' s' → Q () s') :
  wpAny (model X.prog X.w) A (setItem (.ref a) u r) Q E s := by
 rcases g with ⟨kvs, k, e, ey, l, eH⟩ | ⟨kvs, k, b, e, ey, eb, l, eH⟩
 ·subst ey eH
  obtain ⟨z, hd, vs, rel, dd⟩ := dk_of I.hok e
  have hz : vs.length ≤ sizeLine := by rw [← rel.length]; exact z
  have hl : (putK kvs k v).length ≤ sizeLine := by have := length_putK kvs k v; omega
  refine wpAny_setItem_pairs (hsz := hz) (kV_is ry) dd fun h' dd' hs => h _ ?_
  have he : ∃ q, h'.get? a = some q := let ⟨q, _, _, hq, _⟩ := dd'; ⟨q, hq⟩
  exact d_write I (by rw [e]; exact True.intro) hs he (dk_new hl hd (rel.put k rv) dd')
 ·subst ey eH
  cases (show u = Value.ref b from ry)
  obtain ⟨z, hd, xs, rel, dd⟩ := dt_of I.hok e
  have hz : xs.length ≤ sizeLine := by rw [← Paired.length rel]; exact z
  have hl : (putK kvs k v).length ≤ sizeLine := by have := length_putK kvs k v; omega
  refine wpAny_setItem_heap (hsz := hz) (tupleKind_room_in1 hu) (key_of I.hok eb) dd fun h' dd' hs => h _ ?_
  obtain ⟨q, es, ep, hq, h2, h3, h4, _, h5⟩ := dd'
  refine d_write I (by rw [e]; exact True.intro) hs ⟨q, hq⟩ ⟨hl, hd, _, (rel.put k eb rv).keeps fun c ys ec => ?_, q, es, ep, hq, h2, h3, h4, h5⟩
  rw [upd_ne (ne_of ec e (fun z => nomatch z))]
  exact ec
end
theorem dt_empty {P : Program} {w : World} {H : Hp} (h : Heap) (hb : sysModules < h.objs.size) : ObjOk P w H (h.push { cls := .type "dict", data := .dict #[] }) h.objs.size (.dT []) :=
 ⟨Nat.zero_le _, beq_eq_false_iff_ne.mpr (Ne.symm (Nat.ne_of_lt hb)), [], .nil, _, #[], 0, Heap.get?_push_size _ rfl, ⟨rfl, rfl, rfl⟩, rfl, rfl, List.nodup_nil⟩
noncomputable def tDNewK : TE := fun _ H Q => ∀ p, H p = none → Q (.ref p) (upd H p (.dK []))
noncomputable def tDNewT : TE := fun _ H Q => ∀ p, H p = none → Q (.ref p) (upd H p (.dT []))
section
variable {X : Cx} {pos : Pos}
theorem pe_dnewT : PE X (.Dict [] [] pos) tDNewT := fun pins s σ H Q I h =>
 wpAny_Dict_empty ⟨.ref s.heap.objs.size, _, I.laid (a := s.heap.objs.size) (o := .dT []) (t' := s.toks) (fun _ _ q => Heap.get?_push_of_some _ q) (Nat.le_refl _) (dt_empty s.heap I.big), rfl, h _ (I.hok.fresh (Nat.le_refl _))⟩
end
noncomputable def tPairs : List (TE × TE) → St → Hp → (List (V × V) → Hp → Prop) → Prop
 | [], _, H, Q => Q [] H
 | (tk, tv) :: r, σ, H, Q => tk σ H fun x H1 => tv σ H1 fun y H2 => tPairs r σ H2 fun ps H3 => Q ((x, y) :: ps) H3
noncomputable def mergeK (kvs more : List (Key × V)) : List (Key × V) := more.foldl (fun acc kv => putK acc kv.1 kv.2) kvs
noncomputable def tDisp (trs : List (TE × TE)) : TE := fun σ H Q => ∀ p, H p = none → tPairs trs σ (upd H p (.dK [])) fun ps H2 => H2 p = some (.dK []) ∧ ∃ kvs : List (Key × V), ps = kvs.map (fun kv => (kV kv.1, kv.2)) ∧ kvs.length ≤ 15 ∧ Q (.ref p) (upd H2 p (.dK (mergeK [] kvs)))
end L2
namespace L2
open PySem PySem.Spec PyProof.Rows
section
variable {κ : Type} [DecidableEq κ]
theorem valV_not {kvs : List (κ × V)} {k : κ} (h : valV kvs k = none) : ¬ k ∈ kvs.map (·.1) := by
 intro m
 obtain ⟨p, hp, e⟩ := List.mem_map.mp m
 have q : (kvs.any fun kv => decide (kv.1 = k)) = true := List.any_eq_true.mpr ⟨p, hp, decide_eq_true e⟩
 rw [valV_any, h] at q
 exact absurd q (by simp)
theorem nd_snoc : ∀ {l : List κ} {k : κ}, l.Nodup → ¬ k ∈ l → (l ++ [k]).Nodup
 | [], k, _, _ => by simp
 | a :: r, k, h, hk => by
  obtain ⟨h1, h2⟩ := List.nodup_cons.mp h
  show (a :: (r ++ [k])).Nodup
  refine List.nodup_cons.mpr ⟨fun m => ?_, nd_snoc h2 fun m => hk (List.mem_cons.mpr (Or.inr m))⟩
  rcases List.mem_append.mp m with q | q
  ·exact h1 q
  ·exact hk (List.mem_cons.mpr (Or.inl (List.mem_singleton.mp q).symm))
theorem nd_putK {kvs : List (κ × V)} {k : κ} (v : V) (hn : (kvs.map (·.1)).Nodup) (h : valV kvs k = none) : ((putK kvs k v).map (·.1)).Nodup := by
 rw [putK_new v h, List.map_append]
 exact nd_snoc hn (valV_not h)
end
end L2
set_option Elab.async false
set_option linter.all false
set_option maxRecDepth 100000
namespace L2
open PySem PySem.Spec PyProof.Rows
noncomputable def Bd (n : Nat) (i : Int) : Prop := i.natAbs < 2 ^ n
theorem Bd.mono {m n : Nat} {i : Int} (h : Bd m i) (hm : m ≤ n) : Bd n i := Nat.lt_of_lt_of_le h (Nat.pow_le_pow_right (by decide) hm)
theorem Bd.mul {m n : Nat} {i j : Int} (h : Bd m i) (k : Bd n j) : Bd (m + n) (i * j) := by
 unfold Bd at *
 rw [Int.natAbs_mul, Nat.pow_add]
 exact Nat.mul_lt_mul'' h k
theorem pow_add_le (m n : Nat) : 2 ^ m + 2 ^ n ≤ 2 ^ (m + n + 1) := by
 have h1 : 2 ^ m ≤ 2 ^ (m + n) := Nat.pow_le_pow_right (by decide) (Nat.le_add_right _ _)
 have h2 : 2 ^ n ≤ 2 ^ (m + n) := Nat.pow_le_pow_right (by decide) (Nat.le_add_left _ _)
 have h3 : 2 ^ (m + n + 1) = 2 ^ (m + n) * 2 := Nat.pow_succ _ _
 omega
theorem Bd.add {m n : Nat} {i j : Int} (h : Bd m i) (k : Bd n j) : Bd (m + n + 1) (i + j) := by
 have e := pow_add_le m n
 unfold Bd at *
 omega
theorem Bd.sub {m n : Nat} {i j : Int} (h : Bd m i) (k : Bd n j) : Bd (m + n + 1) (i - j) := by
 have e := pow_add_le m n
 unfold Bd at *
 omega
theorem Bd.neg {m : Nat} {i : Int} (h : Bd m i) : Bd m (-i) := by
 unfold Bd at *
 omega
theorem Bd.abs {m : Nat} {i : Int} (h : Bd m i) : Bd m (if i < 0 then -i else i) := by
 split
 ·exact h.neg
 ·exact h
theorem Bd.of_le {n : Nat} {i : Int} (b : Int) (h1 : -b ≤ i) (h2 : i ≤ b) (hb : b.natAbs < 2 ^ n) : Bd n i := by
 unfold Bd
 omega
theorem Bd.bits {n : Nat} {i : Int} (h : Bd n i) : Builtin.Int.intBits i ≤ n := by
 unfold Bd at h
 unfold Builtin.Int.intBits
 split
 ·exact Nat.zero_le _
 ·rename_i z
  have : i.natAbs ≠ 0 := by
   intro e
   apply z
   have : i = 0 := by omega
   subst this
   rfl
  have := (Nat.log2_lt this).mpr h
  omega
theorem Bd.log {n : Nat} {i : Int} (h : Bd n i) (h0 : 0 < n) : i.natAbs.log2 < n := by
 by_cases e : i.natAbs = 0
 ·rw [e]
  exact Nat.lt_of_le_of_lt (by decide) h0
 ·exact (Nat.log2_lt e).mpr h
theorem Bd.sq {m : Nat} {i : Int} (h : Bd m i) : Bd (m + m) (i ^ 2) := by
 have e : i ^ 2 = i * i := by grind
 rw [e]
 exact h.mul h
section
variable {X : Cx}
noncomputable def CMulA (i j : Int) : Prop := CMul i j ∨ (Bd 100000 i ∧ Bd 100000 j)
theorem CMulA.ok {i j : Int} (h : CMulA i j) : IntMulOk i j := by
 rcases h with h | ⟨h1, h2⟩
 ·exact h.ok
 ·exact .of_bits (Nat.le_trans h1.bits (by decide)) (Nat.le_trans h2.bits (by decide))
theorem op_mulA : OpR X (binaryOp .Mult) (rI CMulA fun i j => .int (i * j)) := opI fun _ _ _ _ _ _ _ hc q => mul_int q hc.ok
theorem op_fdivB : OpR X (binaryOp .FloorDiv) (rI (fun _ j => j ≠ 0 ∧ Bd 9000 j) fun i j => .int (i.fdiv j)) := opI fun _ _ _ _ _ _ _ hc q => floordiv_int hc.1 q (.inl (PyProof.noPylong_of_log2 (hc.2.log (by decide))))
theorem op_powB : OpR X (binaryOp .Pow) (rI (fun i j => 0 ≤ j ∧ j ≤ 100 ∧ Bd 100000 i) fun i j => .int (i ^ j.toNat)) := opI fun i j _ _ _ _ _ hc q => by
 obtain ⟨h1, h2, h3⟩ := hc
 refine pow_int h1 ?_ q
 have hb : Builtin.Int.intBits i ≤ 100000 := h3.bits
 have e : ((Builtin.Int.intBits i : Nat) : Int) * j ≤ 100000 * 100 := Int.mul_le_mul (by omega) h2 h1 (by decide)
 exact Int.le_trans e (by decide)
end
end L2
set_option Elab.async false
set_option linter.all false
set_option maxRecDepth 100000
namespace L2
open PySem PySem.Spec PyProof.Rows
section
variable {prog : Program} {w : World} {A : Around} {E : Value → Shared → Prop} {s : Shared}
theorem draw_listL {it l : Addr} {items : Array Value} (hne : l ≠ it) : ∀ (n i : Nat) (s : Shared) (Q : List Value → Shared → Prop), s.heap.IsListIter it l i → s.heap.IsList l items → i + n ≤ items.size →
  (∀ h', h'.IsListIter it l (i + n) → Heap.SameBut it s.heap h' → Q ((items.toList.drop i).take n) { s with heap := h' }) → wpAny (model prog w) A (draw (.ref it) n) Q E s
 | 0, i, s, Q, hit, _, _, hQ => by
  show wpAny _ _ (pure []) Q E s
  exact wpAny_pure (by simpa using hQ s.heap hit (Heap.SameBut.refl ..))
 | n + 1, i, s, Q, hit, ht, hle, hQ => by
  have hlt : i < items.size := by omega
  show wpAny _ _ (pyNext (.ref it) >>= _) Q E s
  refine wpAny_bind (wpAny_pyNext_list_item hit ht (x := items[i]) (by simp [hlt]) fun h₁ hit₁ hs₁ => ?_)
  refine wpAny_bind (wpAny_holding (draw_listL hne n (i + 1) _ _ hit₁ (ht.extBut hs₁.extBut hne) (by omega) fun h₂ hit₂ hs₂ => wpAny_pure ?_))
  have hd : items.toList.drop i = items[i] :: items.toList.drop (i + 1) := by simp [List.drop_eq_getElem_cons, hlt]
  have := hQ h₂ (by rw [show i + (n + 1) = i + 1 + n by omega]; exact hit₂) (hs₁.trans hs₂)
  rw [hd, List.take_succ_cons] at this
  exact this
theorem unpackItems_listL {t : Addr} {items : Array Value} {Q : List Value → Shared → Prop} (hh : A.handled = none) (ht : s.heap.IsList t items)
  (hQ : ∀ h', Heap.ExtBut s.heap.objs.size s.heap h' → Q items.toList { s with heap := h' }) : wpAny (model prog w) A (unpackItems (.ref t) items.size none) Q E s := by
 have hlt : t ≠ s.heap.objs.size := by obtain ⟨o, ho, _⟩ := ht; exact Nat.ne_of_lt (Heap.lt_size ho)
 unfold unpackItems
 refine wpAny_bind ?_
 ·unfold notIterableAtAll
  refine wpAny_bind (wpAny_specialOf ht.typeIs slot_list_iter.lookup ?_)
  refine wpAny_pure ?_
  simp only [Bool.false_eq_true, if_false]
  refine wpAny_bind (wpAny_holding (wpAny_pyIter_list ht ?_))
  have ht0 : (s.heap.push { cls := .type "list_iterator", data := .fields #[.ref t, .int 0 0] }).IsList t items := ht.at fun o e => Heap.get?_push_of_some _ e
  refine wpAny_bind (wpAny_holding (draw_listL hlt items.size 0 _ _ ⟨_, Heap.get?_push_size _ rfl, rfl, rfl⟩ ht0 (by omega) fun h₁ hit₁ hs₁ => ?_))
  have hall : List.take items.size (List.drop 0 items.toList) = items.toList := by
   rw [List.drop_zero]; exact List.take_of_length_le (by simp)
  rw [hall]
  rw [if_neg (by simp)]
  have ht₁ : h₁.IsList t items := ht0.extBut hs₁.extBut hlt
  refine wpAny_bind (wpAny_holding (wpAny_pyNext_list_end hh hit₁ ht₁ (by simp) fun h₂ he₂ => ?_))
  simp only [Option.isSome_none, Bool.false_eq_true, if_false]
  refine wpAny_pure (hQ h₂ fun b o hb e => he₂ b o hb (hs₁.extBut b o hb (Heap.get?_push_of_some _ e)))
theorem assign_Tuple_listL {env : Env} {elts : List Expr} {x1} {pos : Pos} {t : Addr} {items : Array Value} {Q : Unit → Shared → Prop} (hh : A.handled = none) (ht : s.heap.IsList t items)
  (hn : (assignEach elts env).length = items.size) (hstar : (assignEach elts env).findIdx? (·.1) = none)
  (h : ∀ h', Heap.ExtBut s.heap.objs.size s.heap h' → wpAny (model prog w) A (assignInOrder ((assignEach elts env).map (·.2)) items.toList) Q E { s with heap := h' }) :
  wpAny (model prog w) A (assign (.Tuple elts x1 pos) env (.ref t)) Q E s := by
 rw [assign_Tuple]
 refine wpAny_bind (wpAny_standAt ?_)
 unfold unpack
 rw [hn, hstar]
 exact wpAny_bind (wpAny_holding (unpackItems_listL hh ht h))
end
section
variable {X : Cx} {pos : Pos}
noncomputable def gLst (K : PySem.W.Frag) (n : Nat) (t : TGs) : TG := fun v σ H Q => ∃ a xs, v = .ref a ∧ SqL K H a xs ∧ xs.length = n ∧ t xs σ H Q
theorem pg_lst {es : List Expr} {k : Nat} {t : TGs} {n : Nat} (hc : X.calm = true) (h : PGs X es t)
  (hn : (assignEach es X.env).length = n := by rfl) (hst : (assignEach es X.env).findIdx? (·.1) = none := by rfl) : PG X (.Tuple es k pos) (gLst X.K n t) := by
 intro pins s σ H v u Q I r hw
 obtain ⟨a, xs, e1, hq, hl, hw⟩ := hw
 subst e1
 cases r
 obtain ⟨its, rv, ht, hz⟩ := I.list hq
 refine assign_Tuple_listL (I.ok.hd hc) ht.isList (by simp [hn, ← hl, rv.length]) hst fun h' hx => ?_
 have I1 : Inv X pins σ H { s with heap := h' } := I.kept (t' := s.toks) fun b o e => hx b o (Nat.ne_of_lt (Heap.lt_size e)) e
 exact h pins _ σ H xs _ Q I1 (by simpa using rv) hw
noncomputable def gSeq (K : PySem.W.Frag) (n : Nat) (t : TGs) : TG := fun v σ H Q => gTup K n t v σ H Q ∨ gLst K n t v σ H Q
theorem pg_seq {es : List Expr} {k : Nat} {t : TGs} {n : Nat} (hc : X.calm = true) (h : PGs X es t)
  (hn : (assignEach es X.env).length = n := by rfl) (hst : (assignEach es X.env).findIdx? (·.1) = none := by rfl) : PG X (.Tuple es k pos) (gSeq X.K n t) := by
 intro pins s σ H v u Q I r hw
 rcases hw with hw | hw
 ·exact pg_tup hc h hn hst pins s σ H v u Q I r hw
 ·exact pg_lst hc h hn hst pins s σ H v u Q I r hw
end
theorem closureFor_go {env : Env} : ∀ (names : List (Str × NameKind)) (acc : List (Str × Addr)), (∀ y ∈ names, y.2 = .free → ∃ c, env.cells.lookup y.1 = some c) → (∀ x c, acc.lookup x = some c → env.cells.lookup x = some c) →
  ∃ cl, (forIn (m := Sem) names acc fun y cs => (match y with | (name, kind) => do
    let mut cs := cs
    if kind == .free then cs := (name, ← cellOf env name) :: cs
    pure (ForInStep.yield cs) : Sem (ForInStep (List (Str × Addr))))) = pure cl ∧ (∀ x c, cl.lookup x = some c → env.cells.lookup x = some c) ∧ (∀ y ∈ names, y.2 = .free → ∃ c, cl.lookup y.1 = some c) ∧ (∀ x c, acc.lookup x = some c → ∃ c', cl.lookup x = some c')
 | [], acc, _, ha => ⟨acc, rfl, ha, fun _ z => absurd z List.not_mem_nil, fun x c h => ⟨c, h⟩⟩
 | (n, k) :: r, acc, hf, ha => by
  by_cases hk : k = .free
  ·subst hk
   obtain ⟨c, hc⟩ := hf (n, .free) List.mem_cons_self rfl
   obtain ⟨cl, e, h1, h2, h3⟩ := closureFor_go r ((n, c) :: acc) (fun y hy => hf y (List.mem_cons_of_mem _ hy)) (fun x d hx => by
    rw [List.lookup_cons] at hx
    split at hx
    ·rename_i z
     have : x = n := by simpa using z
     subst this
     cases hx
     exact hc
    ·exact ha x d hx)
   refine ⟨cl, ?_, h1, fun y hy hyf => ?_, fun x d hx => ?_⟩
   ·rw [List.forIn_cons]
    simp only [beq_self_eq_true, if_true, cellOf, hc, pure_bind, bind_pure_comp, map_pure]
    simp only [cellOf] at e
    simpa using e
   ·rcases List.mem_cons.mp hy with z | z
    ·subst z
     exact h3 n c (by simp)
    ·exact h2 y z hyf
   ·by_cases z : x = n
    ·subst z
     exact h3 x c (by simp)
    ·refine h3 x d ?_
     rw [List.lookup_cons]
     have : (x == n) = false := by simpa using z
     rw [this]
     exact hx
  ·obtain ⟨cl, e, h1, h2, h3⟩ := closureFor_go r acc (fun y hy => hf y (List.mem_cons_of_mem _ hy)) ha
   have hb : (k == NameKind.free) = false := by simpa using hk
   refine ⟨cl, ?_, h1, fun y hy hyf => ?_, h3⟩
   ·rw [List.forIn_cons]
    simp only [hb, Bool.false_eq_true, if_false, pure_bind]
    simpa using e
   ·rcases List.mem_cons.mp hy with z | z
    ·subst z
     exact absurd hyf hk
    ·exact h2 y z hyf
theorem closureFor_ok {scope : Scope} {env : Env} (hf : ∀ y ∈ scope.names, y.2 = .free → ∃ c, env.cells.lookup y.1 = some c) :
  ∃ cl, closureFor scope env = pure cl ∧ (∀ x c, cl.lookup x = some c → env.cells.lookup x = some c) ∧ (∀ y ∈ scope.names, y.2 = .free → ∃ c, cl.lookup y.1 = some c) := by
 obtain ⟨cl, e, h1, h2, _⟩ := closureFor_go (env := env) scope.names [] hf (fun x c h => by simp at h)
 refine ⟨cl, ?_, h1, h2⟩
 unfold closureFor
 have e' := e
 simp only [bind_pure] at *
 first | exact e | (rw [e]; rfl) | simpa using e
end L2
set_option Elab.async false
set_option linter.all false
set_option maxRecDepth 100000
namespace L2
open PySem PySem.Spec PyProof.Rows
noncomputable def cxLC (X : Cx) (scope : Scope) (cl : List (Str × Addr)) (N : List Str) (C : Addr) (s : Shared) (H : Hp) (ex : List Addr) (pn : List (Addr × Obj)) : Cx where
 prog := X.prog
 w := X.w
 K := X.K
 mg := X.mg
 base := X.base
 A := X.A
 N := N
 s₀ := s
 H₀ := H
 env := compEnvC scope cl C X.env
 outer := X.stack
 stack := X.stack
 ex := ex
 fn := fun _ => false
 calm := X.calm
 pn := pn
 xe := fun _ _ => False
structure CScope (X : Cx) (scope : Scope) (N : List Str) (k : Nat) (js : List Nat) : Prop where
 kind : scope.kind = .function
 nocell : ∀ y ∈ scope.names, y.2 ≠ .cell
 names : ∀ y ∈ scope.names, y.2 = .local → scope.names.lookup y.1 = some .local
 frees : ∀ y ∈ scope.names, y.2 = .free → X.env.kindOf y.1 = some .cell ∨ X.env.kindOf y.1 = some .free
 len : N.length = k + js.length
 look : ∀ i j, js[i]? = some j → ∃ x, N[k + i]? = some x ∧ X.N[j]? = some x ∧ scope.names.lookup x = some .free
theorem relabel_lookup {scope : Scope} {env : Env} (x : Str) : (relabel scope env).names.lookup x = (scope.names.lookup x).map fun k => if (k == .free && env.scope.kind == .function && env.kindOf x == some .cell) then .cell else k := by
 unfold relabel
 dsimp only
 generalize scope.names = l
 induction l with
 | nil => rfl
 | cons y r ih =>
  obtain ⟨n, k⟩ := y
  rw [List.map_cons, List.lookup_cons]
  by_cases hx : x = n
  ·subst hx
   dsimp only
   by_cases hc : (k == NameKind.free && env.scope.kind == ScopeKind.function && env.kindOf x == some NameKind.cell) = true
   ·rw [if_pos hc]
    simp only [List.lookup_cons, beq_self_eq_true, Option.map_some]
    rw [if_pos hc]
   ·rw [if_neg hc]
    simp only [List.lookup_cons, beq_self_eq_true, Option.map_some]
    rw [if_neg hc]
  ·have hb : (x == n) = false := by simpa using hx
   dsimp only
   by_cases hc : (k == NameKind.free && env.scope.kind == ScopeKind.function && env.kindOf n == some NameKind.cell) = true
   ·rw [if_pos hc]
    simp only [List.lookup_cons, hb]
    exact ih
   ·rw [if_neg hc]
    simp only [List.lookup_cons, hb]
    exact ih
theorem lookup_mem {α : Type} : ∀ {l : List (Str × α)} {x : Str} {v : α}, l.lookup x = some v → (x, v) ∈ l
 | [], _, _, h => by simp at h
 | (n, k) :: r, x, v, h => by
  rw [List.lookup_cons] at h
  split at h
  ·rename_i z
   have : x = n := by simpa using z
   subst this
   cases h
   exact List.mem_cons_self
  ·exact List.mem_cons_of_mem _ (lookup_mem h)
noncomputable def frV (σ : St) (js : List Nat) : St := js.map fun j => (σ[j]?).join
noncomputable def stLC (σ : St) (k : Nat) (js : List Nat) : St := List.replicate k none ++ frV σ js
section
variable {X : Cx} {pins : List (Addr × Obj)} {σ : St} {H : Hp} {s : Shared} {scope : Scope} {N : List Str} {k : Nat} {js : List Nat} {cl : List (Str × Addr)} {fp : List Addr}
theorem Inv.block {h1 : Heap} {tk : Nat} (I : Inv X pins σ H s) (S : CScope X scope N k js)
  (hcl1 : ∀ x c, cl.lookup x = some c → X.env.cells.lookup x = some c) (hcl2 : ∀ y ∈ scope.names, y.2 = .free → ∃ c, cl.lookup y.1 = some c)
  (hns : h1.Ns s.heap.objs.size (fun _ => none)) (hk : ∀ b o, s.heap.get? b = some o → h1.get? b = some o)
  (hf : ∀ b ∈ fp, FpOk X pins H b) (hfp : ∀ b ∈ fp, ∃ o, s.heap.get? b = some o ∧ ∀ v, o.data ≠ .cell v) :
  Inv (cxLC X scope cl N s.heap.objs.size s H fp (X.pn ++ pins)) [] (stLC σ k js) H { s with heap := h1, toks := tk } := by
 have hxc : ∀ x c, cl.lookup x = some c → c < s.heap.objs.size := fun x c h => by
  obtain ⟨v, q⟩ := I.cell x c (hcl1 x c h)
  exact q.lt
 have lkL : ∀ x, (compEnvC scope cl s.heap.objs.size X.env).kindOf x = (scope.names.lookup x).map fun k => if (k == .free && X.env.scope.kind == .function && X.env.kindOf x == some .cell) then .cell else k := fun x => relabel_lookup x
 refine ⟨⟨I.ok.mod, S.kind, I.ok.glob, I.ok.blt, Nat.le_refl _, fun x y c h1 h2 => I.ok.inj x y c (hcl1 x c h1) (hcl1 y c h2), fun x hx => ?_, fun x c h _ => absurd (show false = true from h) (by decide), I.ok.hd, I.ok.frames, .inl rfl, fun b hb => ?_, I.bs,
  Nat.le_trans I.ok.bsz I.sz, fun b o e z => ?_, fun b hb z => ?_, I.stack, I.stkFree⟩, rfl, I.bare, Un.kept hk, ⟨_, hns, fun i x v e1 e2 e3 => ?_⟩, fun x c h => ?_, ?_, fun x c h => I.freeC x c (hcl1 x c h), fun p hp => ?_, I.hok.kept hk, ?_⟩
 ·-- has
  have hx : ((scope.names.lookup x).map fun k => if (k == .free && X.env.scope.kind == .function && X.env.kindOf x == some .cell) then NameKind.cell else k) = some .cell ∨ ((scope.names.lookup x).map fun k => if (k == .free && X.env.scope.kind == .function && X.env.kindOf x == some .cell) then NameKind.cell else k) = some .free := by
   rcases hx with hx | hx
   ·exact .inl ((lkL x).symm.trans hx)
   ·exact .inr ((lkL x).symm.trans hx)
  have : scope.names.lookup x = some .free := by
   cases e : scope.names.lookup x with
   | none => rw [e] at hx; rcases hx with hx | hx <;> cases hx
   | some q =>
    rw [e] at hx
    by_cases hq : q = .free
    ·rw [hq]
    ·have hb : (q == NameKind.free) = false := by simpa using hq
     simp only [Option.map_some, hb, Bool.false_and, Bool.false_eq_true, if_false, Option.some.injEq] at hx
     rcases hx with hx | hx
     ·exact absurd hx (S.nocell _ (lookup_mem e))
     ·exact absurd hx hq
  obtain ⟨c, hc⟩ := hcl2 _ (lookup_mem this) rfl
  exact ⟨c, hc⟩
 ·obtain ⟨f0, f1, f2, f3, f4, f5⟩ := hf b hb
  obtain ⟨o, ho, _⟩ := hfp b hb
  exact ⟨Nat.ne_of_lt (Heap.lt_size ho), fun x c h => f4 x c (hcl1 x c h)⟩
 ·obtain ⟨f0, f1, f2, f3, f4, f5⟩ := hf b z
  rcases f3 with f3 | f3
  ·exact I.ok.noex b o e f3
  ·exact absurd (Nat.lt_of_lt_of_le (Heap.lt_size (I.ok.bs b o e).1) f3) (Nat.lt_irrefl _)
 ·obtain ⟨f0, f1, f2, f3, f4, f5⟩ := hf b hb
  rcases List.mem_cons.mp (I.stkSub b z) with q | q
  ·exact f1 q
  ·exact f2 q
 ·-- the values
  by_cases hi : i < k
  ·have : (stLC σ k js)[i]? = some none := by
    unfold stLC
    rw [List.getElem?_append_left (by simpa using hi), List.getElem?_replicate, if_pos hi]
   rw [this] at e2
   cases e2
  ·obtain ⟨d, rfl⟩ : ∃ d, i = k + d := ⟨i - k, by omega⟩
   have e2' : (frV σ js)[d]? = some (some v) := by
    unfold stLC at e2
    rw [List.getElem?_append_right (by simp)] at e2
    simpa using e2
   unfold frV at e2'
   rw [List.getElem?_map] at e2'
   cases ej : js[d]? with
   | none => rw [ej] at e2'; cases e2'
   | some j =>
    rw [ej] at e2'
    have ev : (σ[j]?).join = some v := Option.some.inj e2'
    have ev' : σ[j]? = some (some v) := by
     cases q : σ[j]? with
     | none => rw [q] at ev; cases ev
     | some z => rw [q] at ev; rw [show z = some v from ev]
    obtain ⟨x', n1, n2, n3⟩ := S.look d j ej
    have : x' = x := Option.some.inj (n1.symm.trans e1)
    subst this
    obtain ⟨m, hn, hl⟩ := I.loc
    have hkx := S.frees _ (lookup_mem n3) rfl
    have hvis : Vis X.env.scope x' := by
     rcases hkx with q | q
     ·exact .inr (.inl q)
     ·exact .inr (.inr q)
    obtain ⟨u, r, l⟩ := hl j x' v n2 ev' hvis
    refine ⟨u, r, ?_⟩
    obtain ⟨c, hc⟩ := hcl2 _ (lookup_mem n3) rfl
    rcases l with ⟨l1, _⟩ | ⟨l1, c', l2, l3⟩
    ·rcases hkx with q | q
     ·exact absurd (l1.symm.trans q) (by decide)
     ·exact absurd (l1.symm.trans q) (by decide)
    ·have : c' = c := Option.some.inj (l2.symm.trans (hcl1 _ c hc))
     subst this
     refine .inr ⟨?_, c', hc, ?_⟩
     ·have q := lkL x'
      rw [n3] at q
      by_cases hb : ((NameKind.free == NameKind.free && X.env.scope.kind == .function && X.env.kindOf x' == some .cell)) = true
      ·left
       show (compEnvC scope cl s.heap.objs.size X.env).kindOf x' = _
       rw [q]
       simp only [Option.map_some]
       rw [if_pos hb]
      ·right
       show (compEnvC scope cl s.heap.objs.size X.env).kindOf x' = _
       rw [q]
       simp only [Option.map_some]
       rw [if_neg hb]
     ·obtain ⟨o, ho, hd⟩ := l3
      exact ⟨o, hk _ o ho, hd⟩
 ·obtain ⟨v, o, ho, hd⟩ := I.cell x c (hcl1 x c h)
  exact ⟨v, o, hk _ o ho, hd⟩
 ·exact I.hok.fresh (Nat.le_refl _)
 ·have hp' : p ∈ X.pn ++ pins := by simpa [cxLC] using hp
  obtain ⟨e, n, ne, nf, d⟩ := I.pin p hp'
  exact ⟨hk _ _ e, n, Nat.ne_of_lt (Heap.lt_size e), fun z => (List.mem_cons.mp (I.stkSub _ z)).elim ne nf, d⟩
 ·show (stLC σ k js).length = N.length
  unfold stLC frV
  rw [S.len]
  simp
end
end L2
set_option Elab.async false
set_option linter.all false
set_option maxRecDepth 100000
namespace L2
open PySem PySem.Spec PyProof.Rows
noncomputable def PIfs (X : Cx) (ifs : List Expr) (t : TT) : Prop :=
 ∀ (pins : List (Addr × Obj)) (s : Shared) (σ : St) (H : Hp) (Q : Bool → Hp → Prop), Inv X pins σ H s → t σ H Q →
  wpAny (model X.prog X.w) X.A (forIn ifs true fun c r => if r = true then do let ok ← isTrue c X.env (eval c X.env); pure (ForInStep.yield ok) else pure (ForInStep.yield r)) (TP X pins σ Q) X.xe s
noncomputable def tYes : TT := fun _ H Q => Q true H
theorem pifs_nil {X : Cx} : PIfs X [] tYes := fun _ _ _ H _ I h => wpAny_tests_nil ⟨H, I, h⟩
theorem pifs_one {X : Cx} {c : Expr} {t : TT} (h : PT X c t) : PIfs X [c] t := fun pins s σ H Q I hw => wpAny_tests_one (h pins s σ H Q I hw)
noncomputable def tLC (wi : TI) (k : Nat) (js : List Nat) (g : TG) (tt : TT) (te : TE) : TE := fun σ H Q => wi σ H fun J H1 => ∀ D, H1 D = none →
 ∃ W : Nat → Nat → List V → Hp → Prop, (∃ m, W 0 m [] (upd H1 D (.lst []))) ∧ ∀ i m ys H, W i m ys H → H D = some (.lst ys) ∧
  ((J.stop i H ∧ Q (.ref D) H) ∨ (J.go i H ∧ ys.length < sizeLine ∧ ∃ N : List V → Hp → Prop, (∀ ys' H', N ys' H' → ∃ m', m' < m ∧ W (i + 1) m' ys' H') ∧
   ∀ x H', J.yld i H x H' → g x (stLC σ k js) H' fun σ2 H2 => (σ2.drop k = frV σ js ∧ σ2.length = k + js.length) ∧ tt σ2 H2 fun b H3 => if b = true then te σ2 H3 fun y H4 => H4 D = some (.lst ys) ∧ N (ys ++ [y]) (upd H4 D (.lst (ys ++ [y]))) else N ys H3))
section
variable {X : Cx} {scope : Scope} {N : List Str} {k : Nat} {js : List Nat} {elt iter tg : Expr} {ifs : List Expr} {pos : Pos} {wi : TI} {g : TG} {tt : TT} {te : TE}
theorem lc_keep {σ σ2 : St} (h1 : σ2.drop k = frV σ js) (h2 : σ2.length = k + js.length) (i : Nat) (v : V) (h : (stLC σ k js)[i]? = some (some v)) : σ2[i]? = some (some v) := by
 unfold stLC at h
 by_cases hi : i < k
 ·rw [List.getElem?_append_left (by simpa using hi), List.getElem?_replicate, if_pos hi] at h
  cases h
 ·rw [List.getElem?_append_right (by simpa using hi), ← h1, List.getElem?_drop] at h
  simp only [List.length_replicate] at h
  rw [show k + (i - k) = i by omega] at h
  exact h
theorem lc_block {pins : List (Addr × Obj)} {σ : St} {H : Hp} {s : Shared} {cl : List (Str × Addr)} {Q : VK} {it : Addr} {fp : List Addr} {tn : Nat → Heap → Prop} {J : It} {RR : Value → Addr → Result → Shared → Prop}
  (S : CScope X scope N k js) (hc : X.calm = true)
  (hg : ∀ cl C s H ex pn, PG (cxLC X scope cl N C s H ex pn) tg g) (ht : ∀ cl C s H ex pn, PIfs (cxLC X scope cl N C s H ex pn) ifs tt) (he : ∀ cl C s H ex pn, PE (cxLC X scope cl N C s H ex pn) elt te)
  (hcl1 : ∀ x c, cl.lookup x = some c → X.env.cells.lookup x = some c) (hcl2 : ∀ y ∈ scope.names, y.2 = .free → ∃ c, cl.lookup y.1 = some c)
  (I : Inv X pins σ H s) (T : Turn X.prog X.w X.K tg J fp it tn) (hst : tn 0 s.heap) (hf : ∀ b ∈ fp, FpOk X pins H b)
  (hr : ∀ D, H D = none →
   ∃ W : Nat → Nat → List V → Hp → Prop, (∃ m, W 0 m [] (upd H D (.lst []))) ∧ ∀ i m ys H, W i m ys H → H D = some (.lst ys) ∧
    ((J.stop i H ∧ Q (.ref D) H) ∨ (J.go i H ∧ ys.length < sizeLine ∧ ∃ N : List V → Hp → Prop, (∀ ys' H', N ys' H' → ∃ m', m' < m ∧ W (i + 1) m' ys' H') ∧
     ∀ x H', J.yld i H x H' → g x (stLC σ k js) H' fun σ2 H2 => (σ2.drop k = frV σ js ∧ σ2.length = k + js.length) ∧ tt σ2 H2 fun b H3 => if b = true then te σ2 H3 fun y H4 => H4 D = some (.lst ys) ∧ N (ys ++ [y]) (upd H4 D (.lst (ys ++ [y]))) else N ys H3)))
  (hend : ∀ D C H' s' m, Inv X pins σ H' s' → s'.heap.Ns C m → H' C = none → C ≠ X.env.locals → C ∉ frs X.stack → X.s₀.heap.objs.size ≤ C → (∀ x c, X.env.cells.lookup x = some c → c ≠ C) → (∀ p ∈ X.pn ++ pins, p.1 ≠ C) → D ≠ C → Q (.ref D) H' → RR (.ref D) C (.ok .next) s')
  {E : Value → Shared → Prop} :
  wpAny (model X.prog X.w) X.A (newList []) (fun acc s₃ => wpAny (model X.prog X.w) X.A (newFunctionEnv scope X.env.globals cl [] X.env.qual none .none (some X.env)) (fun cenv s₄ =>
   codeAny (model X.prog X.w) X.A (.compStart (.ListComp elt [⟨tg, iter, ifs, 0⟩] scope pos) 0 (.ref it) acc { cenv with scope := relabel scope X.env }) (RR acc cenv.locals) s₄) E s₃) E s := by
 refine wpAny_newObj_type (wpAny_newFunctionEnv S.nocell (by intro y hy; simp at hy) (fun h₁ hns₁ hsb₁ => ?_) S.kind)
 dsimp only at hns₁ hsb₁ ⊢
 have hD : H s.heap.objs.size = none := I.fresh
 obtain ⟨W, ⟨m0, w0⟩, turn⟩ := hr s.heap.objs.size hD
 have I2 : Inv X pins σ (upd H s.heap.objs.size (.lst [])) { s with heap := s.heap.push { cls := .type "list", dict := none, data := .seq ([] : List Value).toArray }, toks := s.toks } := I.lnew (its := []) .nil (Nat.zero_le _)
 generalize hH2 : s.heap.push { cls := .type "list", dict := none, data := .seq ([] : List Value).toArray } = H2 at hns₁ hsb₁ I2 ⊢
 have hsz : H2.objs.size = s.heap.objs.size + 1 := by rw [← hH2, Heap.size_push]
 generalize hs3 : ({ s with heap := H2, toks := s.toks } : Shared) = s3 at I2
 have hs3h : s3.heap = H2 := by rw [← hs3]
 have old : ∀ b o, s.heap.get? b = some o → H2.get? b = some o := fun b o e => by rw [← hH2]; exact Heap.get?_push_of_some _ e
 have old1 : ∀ b o, H2.get? b = some o → h₁.get? b = some o := fun b o e => hsb₁.extBut b o (Nat.ne_of_lt (Heap.lt_size e)) (Heap.get?_push_of_some _ e)
 have hfH : ∀ b ∈ fp, ∃ o, s.heap.get? b = some o ∧ ∀ v, o.data ≠ .cell v := T.obj 0 _ hst
 have ff : ∀ b ∈ fp, FpOk X pins (upd H s.heap.objs.size (.lst [])) b := fun b hb => by
  obtain ⟨f0, fr⟩ := hf b hb
  obtain ⟨o, ho, _⟩ := hfH b hb
  exact ⟨by rw [upd_ne (Nat.ne_of_lt (Heap.lt_size ho))]; exact f0, fr⟩
 have hns' : h₁.Ns s3.heap.objs.size (fun _ => none) := by
  rw [hs3h]
  simpa using hns₁
 have J0 : Inv (cxLC X scope cl N s3.heap.objs.size s3 (upd H s.heap.objs.size (.lst [])) fp (X.pn ++ pins)) [] (stLC σ k js) (upd H s.heap.objs.size (.lst [])) { s3 with heap := h₁, toks := s.toks + ([] : List (Str × Value)).length } :=
  I2.block (fp := fp) (tk := s.toks + ([] : List (Str × Value)).length) S hcl1 hcl2 hns' (fun b o e => old1 b o (by rw [← hs3h]; exact e)) ff (fun b hb => by
   obtain ⟨o, ho, hd⟩ := hfH b hb
   exact ⟨o, by rw [hs3h]; exact old b o ho, hd⟩)
 have es3 : ({ s3 with heap := h₁, toks := s.toks + ([] : List (Str × Value)).length } : Shared) = { s with heap := h₁, toks := s.toks + ([] : List (Str × Value)).length } := by rw [← hs3]
 rw [es3] at J0
 have hst1 : tn 0 h₁ := T.keep 0 _ _ hst fun b hb o e => old1 b o (old b o e)
 generalize hY : cxLC X scope cl N s3.heap.objs.size s3 (upd H s.heap.objs.size (.lst [])) fp (X.pn ++ pins) = Y at J0
 have eA : Y.A = X.A := by rw [← hY]; rfl
 have eP : Y.prog = X.prog := by rw [← hY]; rfl
 have eW : Y.w = X.w := by rw [← hY]; rfl
 have eK : Y.K = X.K := by rw [← hY]; rfl
 have eE : Y.env = compEnvC scope cl H2.objs.size X.env := by rw [← hY, ← hs3h]; rfl
 have eX : Y.xe = fun _ _ => False := by rw [← hY]; rfl
 have eC : Y.calm = true := by rw [← hY]; exact hc
 have stat : ∀ {H' : Hp}, (∀ b ∈ fp, H' b = none) → ∀ b ∈ fp, FpOk Y [] H' b := fun hn b hb => by
  obtain ⟨f0, f1, f2, f3, f4, f5⟩ := hf b hb
  obtain ⟨o, ho, _⟩ := hfH b hb
  refine ⟨hn b hb, ?_, ?_, .inl (by rw [← hY]; exact hb), fun x c h => ?_, fun p hp => ?_⟩
  ·rw [eE]
   exact Nat.ne_of_lt (Nat.lt_of_lt_of_le (Heap.lt_size ho) (by rw [hsz]; exact Nat.le_succ _))
  ·rw [← hY]
   intro z
   rcases List.mem_cons.mp (I.stkSub b z) with q | q
   ·exact f1 q
   ·exact f2 q
  ·rw [eE] at h
   exact f4 x c (hcl1 x c h)
  ·rw [← hY] at hp
   exact f5 p (by simpa [cxLC] using hp)
 have loop : ∀ s₂ : Shared, s₂ = { s with heap := h₁, toks := s.toks + ([] : List (Str × Value)).length } →
   codeAny (model X.prog X.w) X.A (.compLoop (.ListComp elt [⟨tg, iter, ifs, 0⟩] scope pos) 0 (.ref it) (.ref s.heap.objs.size) (compEnvC scope cl H2.objs.size X.env)) (RR (.ref s.heap.objs.size) H2.objs.size) s₂ := by
  rintro s₂ rfl
  have noE : ∀ (e : Value) (s' : Shared), False → notedBy (model X.prog X.w) X.A (compEnvC scope cl H2.objs.size X.env) (fun e s' => RR (.ref s.heap.objs.size) H2.objs.size (.error e) s') e s' := fun _ _ z => z.elim
  -- one turn, by hand: the step ahead of the store is the iterator's
  refine codeAny_loop rfl (fun n s' => ∃ i H' ys, Inv Y [] (stLC σ k js) H' s' ∧ tn i s'.heap ∧ (∀ b ∈ fp, H' b = none) ∧ W i n ys H') (fun n s5 hI => ?_) m0 ⟨0, _, [], J0, hst1, fun b hb => (ff b hb).1, w0⟩
  obtain ⟨i, H5, ys, I5, st5, fr5, w5⟩ := hI
  show wpAny _ X.A ((compTurn (.ListComp elt [⟨tg, iter, ifs, 0⟩] scope pos) 0 (.ref it) (.ref s.heap.objs.size) (compEnvC scope cl H2.objs.size X.env)).onRaise (fun x => do noteFrame x (compEnvC scope cl H2.objs.size X.env); theTreesLotGoes x)) _ _ s5
  refine wpAny_noted ?_
  rw [compTurn_list]
  refine wpAny_bind (wpAny_standAt (wpAny_bind ?_))
  obtain ⟨hDy, tr⟩ := turn i n ys H5 w5
  rcases tr with ⟨stop, q⟩ | ⟨go, hlen, NN, hN, step⟩
  ·have h6 := T.done Y eP eW eK eC i [] s5 _ H5 (fun _ _ => False) I5 (stat fr5) st5 stop
   rw [eA] at h6
   refine wpAny_mono h6 (fun r s6 h => ?_) noE
   obtain ⟨rfl, I6⟩ := h
   refine wpAny_pure ?_
   obtain ⟨m6, hn6, _⟩ := I6.loc
   rw [eE] at hn6
   have hu : Un (frs X.stack) fp (upd H s.heap.objs.size (.lst [])) H5 s3.heap s6.heap := by
    have := I6.base
    rw [← hY] at this
    exact this
   have hok6 : HOk X.prog X.w H5 s6.heap := by
    have := I6.hok
    rw [eP, eW] at this
    exact this
   have I7 : Inv X pins σ H5 s6 := I2.call' (ch := fp) (by have := I6.os; rw [← hY] at this; exact this) hu hok6 I6.bare fun b hb => by
    obtain ⟨f0, f1, f2, f3, f4, f5⟩ := hf b hb
    exact ⟨f3, f1, f4, f5⟩
   have hfree : H5 H2.objs.size = none := by
    have := I6.free
    rw [eE] at this
    exact this
   refine hend _ _ H5 s6 m6 I7 hn6 hfree ?_ ?_ ?_ ?_ ?_ ?_ q
   ·rw [← hs3h]; exact Nat.ne_of_gt I2.lt
   ·rw [← hs3h]
    intro z
    rcases List.mem_cons.mp (I2.stkSub _ z) with q | q
    ·exact absurd q (Nat.ne_of_gt I2.lt)
    ·exact I2.nofs (Nat.le_refl _) q
   ·rw [← hs3h]; exact I2.sz
   ·intro x c h z
    obtain ⟨v, hv⟩ := I2.cell x c h
    have := hv.lt
    rw [hs3h, z] at this
    exact absurd this (Nat.lt_irrefl _)
   ·intro p hp z
    have := Heap.lt_size (I2.pin p hp).1
    rw [hs3h, z] at this
    exact absurd this (Nat.lt_irrefl _)
   ·rw [hsz]; exact Nat.ne_of_lt (Nat.lt_succ_self _)
  ·have h6 := T.item Y eP eW eK eC i [] s5 _ H5 (fun _ _ => False) I5 (stat fr5) st5 go
   rw [eA] at h6
   refine wpAny_mono h6 (fun r s6 h => ?_) noE
   obtain ⟨u, rfl, h7⟩ := h
   refine wpAny_bind (wpAny_mono h7 (fun _ s7 h => ?_) noE)
   obtain ⟨x, H7, I7, rx, y7, st7, fr7⟩ := h
   have I7' := I7.pinned (stat fr7) (T.obj _ _ st7)
   have h8 := hg cl s3.heap.objs.size s3 (upd H s.heap.objs.size (.lst [])) fp (X.pn ++ pins)
   rw [hY] at h8
   have h8 := h8 _ s7 _ H7 x u _ I7' rx (step x H7 y7)
   rw [eP, eW, eA, eE, eX] at h8
   refine wpAny_bind (wpAny_mono h8 (fun _ s8 h => ?_) noE)
   obtain ⟨σ8, H8, I8, ⟨k1, k2⟩, q8⟩ := h
   have h9 := ht cl s3.heap.objs.size s3 (upd H s.heap.objs.size (.lst [])) fp (X.pn ++ pins)
   rw [hY] at h9
   have h9 := h9 _ s8 σ8 H8 _ I8 q8
   rw [eP, eW, eA, eE, eX] at h9
   refine wpAny_bind (wpAny_mono h9 (fun ok s9 h => ?_) noE)
   obtain ⟨H9, I9, q9⟩ := h
   have again : ∀ {H' : Hp} {ys' : List V} {s' : Shared}, Inv Y ([] ++ pinsAt fp s7.heap) σ8 H' s' → NN ys' H' → ∃ m, m < n ∧ ∃ i H' ys, Inv Y [] (stLC σ k js) H' s' ∧ tn i s'.heap ∧ (∀ b ∈ fp, H' b = none) ∧ W i m ys H' := fun {H' ys' s'} I' n' => by
    obtain ⟨m', hm, w'⟩ := hN ys' H' n'
    refine ⟨m', hm, i + 1, H', ys', (I'.unpinned).weak (by unfold stLC frV; rw [k2]; simp) (fun j v h => lc_keep k1 k2 j v h), T.keep _ _ _ st7 fun b hb o e => (I'.pin (b, o) (List.mem_append_right _ (List.mem_append_right _ (mem_pinsAt hb e)))).1, fun b hb => ?_, w'⟩
    obtain ⟨o, e, d⟩ := T.obj _ _ st7 b hb
    exact (I'.pin (b, o) (List.mem_append_right _ (List.mem_append_right _ (mem_pinsAt hb e)))).2.1
   cases ok with
   | false =>
    rw [if_neg Bool.false_ne_true] at q9
    exact wpAny_pure ⟨rfl, again I9 q9⟩
   | true =>
    rw [if_pos rfl] at q9
    have h10 := he cl s3.heap.objs.size s3 (upd H s.heap.objs.size (.lst [])) fp (X.pn ++ pins)
    rw [hY] at h10
    have h10 := h10 _ s9 σ8 H9 _ I9 q9
    rw [eP, eW, eA, eE, eX] at h10
    refine wpAny_bind (wpAny_bind (wpAny_mono h10 (fun y s10 h => ?_) noE))
    obtain ⟨yv, H10, I10, ry, e10, n10⟩ := h
    have h11 := mt_append (X := Y) _ s10 σ8 H10 (.ref s.heap.objs.size) [yv] (.ref s.heap.objs.size) [y] (fun _ H' => NN (ys ++ [yv]) H') I10 rfl (.cons ry .nil) ⟨_, ys, yv, rfl, rfl, e10, hlen, n10⟩
    rw [eP, eW, eA, eX] at h11
    refine wpAny_bind (wpAny_mono h11 (fun _ s11 h => ?_) noE)
    obtain ⟨_, H11, I11, _, n11⟩ := h
    exact wpAny_pure (wpAny_pure ⟨rfl, again I11 n11⟩)
 exact codeAny_compStart_list (loop _ rfl) (T.self X.A 0 _ _ _ hst1 (loop _ rfl))
end
end L2
namespace L2
open PySem PySem.Spec PyProof.Rows
section
variable {X : Cx} {scope : Scope} {N : List Str} {k : Nat} {js : List Nat} {elt iter tg : Expr} {ifs : List Expr} {pos : Pos} {wi : TI} {g : TG} {tt : TT} {te : TE}
theorem CScope.closure {pins : List (Addr × Obj)} {σ : St} {H : Hp} {s : Shared} (S : CScope X scope N k js) (I : Inv X pins σ H s) :
  ∃ cl, closureFor scope X.env = pure cl ∧ (∀ x c, cl.lookup x = some c → X.env.cells.lookup x = some c) ∧ (∀ y ∈ scope.names, y.2 = .free → ∃ c, cl.lookup y.1 = some c) :=
 closureFor_ok fun y hy hf => I.ok.has y.1 (S.frees y hy hf)
theorem pe_lc (S : CScope X scope N k js) (hc : X.calm = true) (hi : PI X tg iter wi)
  (hg : ∀ cl C s H ex pn, PG (cxLC X scope cl N C s H ex pn) tg g) (ht : ∀ cl C s H ex pn, PIfs (cxLC X scope cl N C s H ex pn) ifs tt) (he : ∀ cl C s H ex pn, PE (cxLC X scope cl N C s H ex pn) elt te)
  (hs : ∀ x, foldedSetIterable iter X.env x = pure x := by intro _; rfl) : PE X (.ListComp elt [⟨tg, iter, ifs, 0⟩] scope pos) (tLC wi k js g tt te) := by
 intro pins s σ H Q I h
 obtain ⟨cl, hclos, hcl1, hcl2⟩ := S.closure I
 rw [eval_ListComp]
 refine wpAny_comprehension_free (use := none) rfl hs hclos S.kind S.names (thn (hi pins s σ H _ I h) fun v s1 h1 => thn h1 fun itv s2 h2 => ?_)
 obtain ⟨it, fp, tn, J, H2, rfl, I2, T, st2, f2, hr⟩ := h2
 refine lc_block (Q := Q) (RR := fun acc C => compPost (model X.prog X.w) X.A X.xe none (EP X pins σ Q) acc C) S hc hg ht he hcl1 hcl2 I2 T st2 f2 hr ?_
 intro D C H' s' m I' hn h0 hL hF hz hcell hpin hDC q
 refine ⟨m, hn, fun h' sb => ⟨.ref D, H', ?_, rfl, q⟩⟩
 exact I'.turned (t' := s'.toks) (fun b o hb e => (sb.2 b hb).trans e) h0 hL (.inr hz) hcell hpin
end
end L2
namespace L2
open PySem PySem.Spec PyProof.Rows
section
variable {X : Cx} {scope : Scope} {N : List Str} {k : Nat} {js : List Nat} {elt iter tg : Expr} {ifs : List Expr} {pos : Pos} {wi : TI} {g : TG} {tt : TT} {te : TE}
theorem ps_lc {i : Nat} {y : Str} {py spos : Pos} (S : CScope X scope N k js) (hc : X.calm = true) (hi : PI X tg iter wi)
  (hg : ∀ cl C s H ex pn, PG (cxLC X scope cl N C s H ex pn) tg g) (ht : ∀ cl C s H ex pn, PIfs (cxLC X scope cl N C s H ex pn) ifs tt) (he : ∀ cl C s H ex pn, PE (cxLC X scope cl N C s H ex pn) elt te)
  (hN : X.N.Nodup) (hix : X.N[i]? = some y) (hy : X.env.scope.names.lookup y = some .local)
  (hsw : swapsWith (.ListComp elt [⟨tg, iter, ifs, 0⟩] scope pos) (some (.Name y py)) spos.line X.env = pure true := by rfl)
  (hs : ∀ x, foldedSetIterable iter X.env x = pure x := by intro _; rfl) : PS X (.Assign [.Name y py] (.ListComp elt [⟨tg, iter, ifs, 0⟩] scope pos) spos) (tAsg (tLC wi k js g tt te) (gName i)) := by
 intro pins s σ H D0 I h
 obtain ⟨cl, hclos, hcl1, hcl2⟩ := S.closure I
 rw [exec_Assign_Name_used _ _ _ _ hsw]
 refine wpAny_bind (wpAny_standAt (wpAny_bind ?_))
 show wpAny _ X.A (do let _ ← comprehension (.ListComp elt [⟨tg, iter, ifs, 0⟩] scope pos) scope X.env _ (newList []) false (eval iter X.env) (some (assign (.Name y py) X.env))) _ _ s
 refine wpAny_bind (wpAny_mono (wpAny_comprehension_free (use := some (assign (.Name y py) X.env)) (Q := fun _ s' => SP X pins D0 .next s') rfl hs hclos S.kind S.names
  (thn (hi pins s σ H _ I h) fun v s1 h1 => thn h1 fun itv s2 h2 => ?_)) (fun _ s' hq => wpAny_pure (wpAny_pure hq)) fun _ _ e => e)
 obtain ⟨it, fp, tn, J, H2, rfl, I2, T, st2, f2, hr⟩ := h2
 refine lc_block (Q := fun v H' => D0.nx (σ.set i (some v)) H') (RR := fun acc C => compPost (model X.prog X.w) X.A X.xe (some (assign (.Name y py) X.env)) (fun _ s' => SP X pins D0 .next s') acc C) S hc hg ht he hcl1 hcl2 I2 T st2 f2 hr ?_
 intro D C H' s' m I' hn h0 hL hF hz hcell hpin hDC q
 show wpAny _ X.A (assign (.Name y py) X.env (.ref D)) _ _ _
 refine wpAny_assign_Name (store_ok2 I' hN hix (.inl hy) (v := .ref D) rfl (fun s'' I'' hsb => ?_) (.inr hy))
 obtain ⟨a, sb, ha⟩ := hsb
 have haC : C ≠ a := by
  rcases ha with rfl | ha
  ·exact hL
  ·exact fun z => hcell y a ha z.symm
 refine ⟨m, hn.sameBut sb haC, fun h' sb' => ⟨σ.set i (some (.ref D)), H', ?_, q⟩⟩
 exact I''.turned (t' := s''.toks) (fun b o hb e => (sb'.2 b hb).trans e) h0 hL (.inr hz) hcell hpin
end
end L2
set_option Elab.async false
set_option linter.all false
set_option maxRecDepth 100000
namespace L2
open PySem PySem.Spec PyProof.Rows
section
variable {X : Cx}
noncomputable def rIsi (K : PySem.W.Frag) : List V → Hp → VK → Prop := fun xs H Q => ∃ x T t b, xs = [x, .ty T] ∧ TyOf K H x t ∧ PySem.W.kitOne K t (.type T) = some b ∧ Q (.bl b) H
theorem call_isi : CallR X (.builtin "isinstance") (rIsi X.K) := by
 intro pins s σ H xs us Q I r h
 obtain ⟨x, T, t, b, rfl, ty, e, q⟩ := h
 obtain ⟨u, v, rfl, ru, rv⟩ := r.two
 obtain rfl : v = Value.type T := rv
 exact isinst_ok I ru ty e fun tk => ⟨.bl b, H, I.tok tk, rfl, q⟩
theorem isi_lst_lst (K : PySem.W.Frag) : PySem.W.kitOne K (.type "list") (.type "list") = some true := rfl
theorem vals_bl : ∀ {bs : List Bool} {us : List Value}, Vals (bs.map V.bl) us → us = bs.map Value.bool
 | [], _, .nil => rfl
 | b :: r, _, .cons h t => by
  rw [show _ = Value.bool b from h, vals_bl t]
  rfl
theorem truth_bl {prog : Program} {w : World} {A : Around} (bs : List Bool) : TruthOf prog w A (fun i v => (bs.map Value.bool).toArray[i]? = some v) (fun i => bs.getD i false) := by
 intro i v s Q E hP hQ
 have hP' : (bs.map Value.bool)[i]? = some v := by simpa using hP
 rw [List.getElem?_map] at hP'
 cases e : bs[i]? with
 | none => rw [e] at hP'; cases hP'
 | some b =>
  rw [e] at hP'
  have : v = Value.bool b := (Option.some.inj hP').symm
  subst this
  refine wpAny_truthy_bool ?_
  have hb : bs.getD i false = b := by simp [List.getD, e]
  have hQ' : Q (bs.getD i false) s := hQ
  rw [hb] at hQ'
  exact hQ'
theorem all_range (bs : List Bool) : (List.range bs.length).all (fun i => bs.getD i false) = bs.all id := by
 rw [Bool.eq_iff_iff, List.all_eq_true, List.all_eq_true]
 constructor
 ·intro h x hx
  obtain ⟨i, hi, rfl⟩ := List.mem_iff_getElem.mp hx
  have := h i (by simpa using hi)
  simpa [List.getD, hi] using this
 ·intro h i hi
  have hi' : i < bs.length := by simpa using hi
  have := h bs[i] (List.getElem_mem hi')
  simpa [List.getD, hi'] using this
noncomputable def rAllB (K : PySem.W.Frag) (f : List Bool → Bool) : List V → Hp → VK → Prop := fun xs H Q => ∃ p bs, xs = [.ref p] ∧ SqL K H p (bs.map V.bl) ∧ Q (.bl (f bs)) H
theorem call_all (hc : X.calm = true) : CallR X (.builtin "all") (rAllB X.K fun bs => bs.all id) := by
 intro pins s σ H xs us Q I r h
 obtain ⟨p, bs, rfl, hq, q⟩ := h
 obtain ⟨u, rfl, ru⟩ := r.one
 obtain rfl : u = Value.ref p := ru
 obtain ⟨its, rv, hl, hz⟩ := I.list hq
 have e := vals_bl rv
 subst e
 obtain ⟨o, ho, _⟩ := id hl.isList
 refine call_all_walk (wpAny_pyIter_list hl.isList ?_)
 refine ⟨_, _, _, _, _, _, _, rfl, Walks.list (A := X.A.in1) (I.ok.hd hc) _ p (Nat.ne_of_lt (Heap.lt_size ho)) _, ⟨⟨_, Heap.get?_push_size _ rfl, rfl, rfl⟩, hl.isList.at fun o e => Heap.get?_push_of_some _ e⟩, truth_bl bs, fun h' tk hk => ?_⟩
 have ea : (List.range (bs.map Value.bool).toArray.size).all (fun i => bs.getD i false) = bs.all id := by
  rw [List.size_toArray, List.length_map]
  exact all_range bs
 rw [ea]
 exact ⟨.bl _, H, I.kept (t' := tk) fun b o e => hk b o (fun z => by
  have z' : b = s.heap.objs.size := by simpa using z
  exact absurd (Heap.lt_size e) (by rw [z']; exact Nat.lt_irrefl _)) (Heap.get?_push_of_some _ e), rfl, q⟩
end
mutual
inductive Rdy (K : PySem.W.Frag) (H : Hp) : V → PyData → Prop
 | non : Rdy K H .non .none
 | bl (b : Bool) : Rdy K H (.bl b) (.bool b)
 | int (i : Int) : Rdy K H (.int i) (.int i)
 | str (x : Str) : Rdy K H (.str x) (.str x)
 | tup {a : Addr} {xs : List V} {ds : List PyData} : SqT K H a xs → RdyAll K H xs ds → Rdy K H (.ref a) (.tuple ds)
 | lst {a : Addr} {xs : List V} {ds : List PyData} : SqL K H a xs → RdyAll K H xs ds → Rdy K H (.ref a) (.list ds)
inductive RdyAll (K : PySem.W.Frag) (H : Hp) : List V → List PyData → Prop
 | nil : RdyAll K H [] []
 | cons {x : V} {xs : List V} {d : PyData} {ds : List PyData} : Rdy K H x d → RdyAll K H xs ds → RdyAll K H (x :: xs) (d :: ds)
end
section
variable {X : Cx} {pins : List (Addr × Obj)} {σ : St} {H : Hp} {s : Shared}
mutual
theorem Rdy.reads (I : Inv X pins σ H s) : ∀ {x : V} {d : PyData}, Rdy X.K H x d → ∀ {u : Value}, RelV x u → ∃ as, Reads s.heap u d as
 | _, _, .non, u, r => by cases (show u = Value.none from r); exact ⟨_, .none⟩
 | _, _, .bl b, u, r => by cases (show u = Value.bool b from r); exact ⟨_, .bool b⟩
 | _, _, .int i, u, r => by obtain ⟨t, rfl⟩ := (show ∃ t, u = Value.int i t from r); exact ⟨_, .int i t⟩
 | _, _, .str x, u, r => by obtain ⟨t, rfl⟩ := (show ∃ t, u = Value.str x t from r); exact ⟨_, .str x t⟩
 | _, _, @Rdy.tup _ _ a xs ds hq ha, u, r => by
  cases (show u = Value.ref a from r)
  obtain ⟨its, rv, ⟨o, ho, hc, n, hd⟩, hz⟩ := I.tuple hq
  obtain ⟨as, ra⟩ := RdyAll.reads I ha rv
  exact ⟨_, .tuple ho hc hd (by simpa using ra)⟩
 | _, _, @Rdy.lst _ _ a xs ds hq ha, u, r => by
  cases (show u = Value.ref a from r)
  obtain ⟨its, rv, ⟨o, n, ho, hc, _, hd⟩, hz⟩ := I.list hq
  obtain ⟨as, ra⟩ := RdyAll.reads I ha rv
  exact ⟨_, .list ho hc hd (by simpa using ra)⟩
theorem RdyAll.reads (I : Inv X pins σ H s) : ∀ {xs : List V} {ds : List PyData}, RdyAll X.K H xs ds → ∀ {us : List Value}, Vals xs us → ∃ as, ReadsAll s.heap us ds as
 | _, _, .nil, _, .nil => ⟨_, .nil⟩
 | _, _, .cons h t, _, .cons r rs => by
  obtain ⟨as, h1⟩ := Rdy.reads I h r
  obtain ⟨bs, h2⟩ := RdyAll.reads I t rs
  exact ⟨_, .cons h1 h2⟩
end
end
section
variable {X : Cx}
open PySem.SeqAt in
noncomputable def rEqD (K : PySem.W.Frag) (f : Bool → Bool) : R2 := fun x y H Q => ∃ d e, Rdy K H x d ∧ Rdy K H y e ∧ shaped d = true ∧ shaped e = true ∧ Q (.bl (f (PyData.eqv d e))) H
theorem op_eqD (hu : X.A.units + 64 < cLine) : OpR X (compareOp .Eq) (rEqD X.K id) := by
 intro pins s σ H x y v u Q I rx ry h
 obtain ⟨d, e, hd, he, sd, se, q⟩ := h
 obtain ⟨as, ra⟩ := hd.reads I rx
 obtain ⟨bs, rb⟩ := he.reads I ry
 exact eq_dataH ra rb sd se hu ⟨.bl _, H, I, rfl, q⟩
theorem op_neD (hu : X.A.units + 64 < cLine) : OpR X (compareOp .NotEq) (rEqD X.K not) := by
 intro pins s σ H x y v u Q I rx ry h
 obtain ⟨d, e, hd, he, sd, se, q⟩ := h
 obtain ⟨as, ra⟩ := hd.reads I rx
 obtain ⟨bs, rb⟩ := he.reads I ry
 exact ne_dataH ra rb sd se hu ⟨.bl _, H, I, rfl, q⟩
end
noncomputable def Ext (H H' : Hp) : Prop := ∀ b o, H b = some o → H' b = some o
theorem Ext.refl (H : Hp) : Ext H H := fun _ _ h => h
theorem Ext.trans {H H1 H2 : Hp} (a : Ext H H1) (b : Ext H1 H2) : Ext H H2 := fun c o h => b c o (a c o h)
theorem Ext.upd {H : Hp} {p : Addr} {o : HO} (h : H p = none) : Ext H (upd H p o) := fun b u e => by rw [upd_ne (ne_of_none e h)]; exact e
theorem Ext.then {H H1 : Hp} {p : Addr} {o : HO} (a : Ext H H1) (h : H1 p = none) : Ext H (L2.upd H1 p o) := a.trans (Ext.upd h)
theorem Ext.none {H H' : Hp} (e : Ext H H') {l : Addr} (h : H' l = .none) : H l = .none := by
 cases q : H l with
 | none => rfl
 | some o => rw [e l o q] at h; cases h
theorem Ext.sqT {K : PySem.W.Frag} {H H' : Hp} {a : Addr} {xs : List V} (e : Ext H H') (h : SqT K H a xs) : SqT K H' a xs := by
 rcases h with (h | ⟨o, h⟩) | h
 ·exact .inl (.inl (e _ _ h))
 ·exact .inl (.inr ⟨o, e _ _ h⟩)
 ·exact .inr h
theorem Ext.sqL {K : PySem.W.Frag} {H H' : Hp} {a : Addr} {xs : List V} (e : Ext H H') (h : SqL K H a xs) : SqL K H' a xs := by
 rcases h with (h | ⟨o, h⟩) | h
 ·exact .inl (.inl (e _ _ h))
 ·exact .inl (.inr ⟨o, e _ _ h⟩)
 ·exact .inr h
mutual
theorem Rdy.ext {K : PySem.W.Frag} {H H' : Hp} (e : Ext H H') : ∀ {x : V} {d : PyData}, Rdy K H x d → Rdy K H' x d
 | _, _, .non => .non
 | _, _, .bl b => .bl b
 | _, _, .int b => .int b
 | _, _, .str b => .str b
 | _, _, .tup h t => .tup (e.sqT h) (RdyAll.ext e t)
 | _, _, .lst h t => .lst (e.sqL h) (RdyAll.ext e t)
theorem RdyAll.ext {K : PySem.W.Frag} {H H' : Hp} (e : Ext H H') : ∀ {xs : List V} {ds : List PyData}, RdyAll K H xs ds → RdyAll K H' xs ds
 | _, _, .nil => .nil
 | _, _, .cons h t => .cons (Rdy.ext e h) (RdyAll.ext e t)
end
end L2
set_option Elab.async false
set_option linter.all false
set_option maxRecDepth 100000
namespace L2
open PySem PySem.Spec PyProof.Rows
structure FnB (P : Program) (w : World) (K : PySem.W.Frag) (mg : Str → Option Value) (base : Heap) (CX : CXT) (k : Nat) (x : Str) (ps : List Str) (sp : Sp) : Prop where
 ex : ∃ f fd, FnOk P w K mg base CX k f fd ps sp ∧ mg x = some (.ref f) ∧ PySem.W.keepIn K (.ref f) = true ∧ Binds K fd ps []
section
variable {X : Cx} {CX : CXT} {k : Nat} {ps : List Str} {sp : Sp} {E : XK} {x : Str} {p pos : Pos} {e : Expr} {es : List Expr} {t : TA}
theorem pe_fn (F : FnB X.prog X.w X.K X.mg X.base CX k x ps sp) (hr : Room k X.A) (hg : Gl X x) (hx : Passes CX X E)
  (ha : PA X (e :: es) t) (hdb : (x == ("__debug__" : Str)) = false := by decide) (he : starEach (e :: es) X.env = (false, eval e X.env) :: starEach es X.env := by rfl) (hpl : (backTo pos (starEach es X.env)).any (·.1) = false := by rfl) :
  PE X (.Call (.Name x p) (e :: es) [] pos) (tCall sp [] E t) := by
 obtain ⟨f, fd, h1, h2, h3, h4⟩ := F.ex
 exact pe_call h1 hr hg h2 h3 h4 .nil hx ha hdb he hpl
end
theorem FnB.of {P : Program} {w : World} {K : PySem.W.Frag} {mg : Str → Option Value} {base : Heap} {CX : CXT} {k : Nat} {x : Str} {ps : List Str} {sp : Sp} {f : Addr} {fd : FuncData} (h : FnOk P w K mg base CX k f fd ps sp) (m : mg x = some (.ref f)) (kp : PySem.W.keepIn K (.ref f) = true) (b : Binds K fd ps []) : FnB P w K mg base CX k x ps sp := ⟨f, fd, h, m, kp, b⟩
noncomputable def optK {α : Type} (o : Option α) (k : α → Prop) : Prop := match o with | some v => k v | none => False
noncomputable def seqOf (o : Option HO) : Option (List V) := match o with
 | some (.lst xs) => some xs
 | some (.tup xs) => some xs
 | _ => none
theorem seqOf_l (xs : List V) : seqOf (some (.lst xs)) = some xs := rfl
theorem seqOf_t (xs : List V) : seqOf (some (.tup xs)) = some xs := rfl
noncomputable def ixF : R2 := fun x y H Q => match x, y with
 | .ref p, .int i => optK (seqOf (H p)) fun xs => optK (atI xs i) fun v => Q v H
 | _, _ => False
theorem ix_F {X : Cx} : IxR X ixF := by
 intro value slice pins s σ H x y v u Q I rx ry q hs
 unfold ixF at q
 split at q
 ·rename_i p i
  cases e : H p with
  | none => rw [e] at q; exact q.elim
  | some o =>
   rw [e] at q
   cases o with
   | lst xs =>
    have q : optK (atI xs i) fun v => Q v H := q
    unfold optK at q
    split at q
    ·rename_i w hw
     exact ix_list value slice pins s σ H _ _ v u Q I rx ry ⟨p, xs, i, w, rfl, rfl, SqL.of e, hw, q⟩ hs
    ·exact q.elim
   | tup xs =>
    have q : optK (atI xs i) fun v => Q v H := q
    unfold optK at q
    split at q
    ·rename_i w hw
     exact ix_tup value slice pins s σ H _ _ v u Q I rx ry ⟨p, xs, i, w, rfl, rfl, SqT.of e, hw, q⟩ hs
    ·exact q.elim
   | _ => exact q.elim
 ·exact q.elim
theorem atI_0 {α : Type} (a : α) (l : List α) : atI (a :: l) 0 = some a := atI_nat (j := 0) rfl
theorem atI_1 {α : Type} (a b : α) (l : List α) : atI (a :: b :: l) 1 = some b := atI_nat (j := 1) rfl
theorem atI_2 {α : Type} (a b c : α) (l : List α) : atI (a :: b :: c :: l) 2 = some c := atI_nat (j := 2) rfl
theorem atI_3 {α : Type} (a b c d : α) (l : List α) : atI (a :: b :: c :: d :: l) 3 = some d := atI_nat (j := 3) rfl
theorem optK_some {α : Type} (a : α) (k : α → Prop) : optK (some a) k = k a := rfl
noncomputable def setF : V → V → V → Hp → (Hp → Prop) → Prop := fun o i v H Q => match o, i with
 | .ref p, .int k => (match H p with
  | some (.lst xs) => optK (ixN xs.length k) fun j => Q (upd H p (.lst (xs.set j v)))
  | _ => False)
 | _, _ => False
theorem set_F {X : Cx} : PSet X setF := by
 intro pins s σ H o i v ov iv u Q I ro ri rv q
 unfold setF at q
 split at q
 ·rename_i p k
  split at q
  ·rename_i xs e
   unfold optK at q
   split at q
   ·rename_i j hj
    exact set_list pins s σ H _ _ v ov iv u Q I ro ri rv ⟨p, xs, k, j, rfl, rfl, e, hj, q⟩
   ·exact q.elim
  ·exact q.elim
 ·exact q.elim
noncomputable def cscOk (dsc scope : Scope) (N0 N : List Str) (k : Nat) (js : List Nat) : Bool :=
 scope.kind == .function && scope.names.all (fun y => y.2 != .cell) && scope.names.all (fun y => y.2 != .local || scope.names.lookup y.1 == some .local) &&
 scope.names.all (fun y => y.2 != .free || dsc.names.lookup y.1 == some .cell || dsc.names.lookup y.1 == some .free) && N.length == k + js.length &&
 (List.range js.length).all (fun i => match js[i]? with | some j => (match N[k + i]? with | some x => N0[j]? == some x && scope.names.lookup x == some .free | none => false) | none => false)
theorem CScope.of_ok {X : Cx} {dsc scope : Scope} {N0 N : List Str} {k : Nat} {js : List Nat} (e : X.env.scope = dsc) (n : X.N = N0) (h : cscOk dsc scope N0 N k js = true) : CScope X scope N k js := by
 subst e n
 unfold cscOk at h
 simp only [Bool.and_eq_true, List.all_eq_true] at h
 obtain ⟨⟨⟨⟨⟨h1, h2⟩, h3⟩, h4⟩, h5⟩, h6⟩ := h
 refine ⟨by simpa using h1, fun y hy => by simpa using h2 y hy, fun y hy hl => ?_, fun y hy hl => ?_, by simpa using h5, fun i j hj => ?_⟩
 ·have := h3 y hy
  simpa [hl] using this
 ·have := h4 y hy
  simp only [hl, bne_self_eq_false, Bool.false_or, Bool.or_eq_true, beq_iff_eq] at this
  exact this
 ·have hi : i < js.length := (List.getElem?_eq_some_iff.mp hj).1
  have := h6 i (by simpa using hi)
  rw [hj] at this
  dsimp only at this
  cases q : N[k + i]? with
  | none => rw [q] at this; cases this
  | some x =>
   rw [q] at this
   simp only [Bool.and_eq_true, beq_iff_eq] at this
   exact ⟨x, rfl, this.1, this.2⟩
theorem lc_range {lo : Int} {n : Nat} {g : TG} {tt : TT} {te : TE} {k : Nat} {js : List Nat} {σ : St} {D : Addr} {Q : VK} {H : Hp} (Pv : Nat → List V → Hp → Prop) (h0 : Pv 0 [] (upd H D (.lst [])))
  (hn : n < sizeLine) (hl : ∀ i ys H, i ≤ n → Pv i ys H → H D = some (.lst ys) ∧ ys.length ≤ i)
  (hs : ∀ i ys H, i < n → Pv i ys H → g (.int (lo + i)) (stLC σ k js) H fun σ2 H2 => (σ2.drop k = frV σ js ∧ σ2.length = k + js.length) ∧ tt σ2 H2 fun b H3 => if b = true then te σ2 H3 fun y H4 => H4 D = some (.lst ys) ∧ Pv (i + 1) (ys ++ [y]) (upd H4 D (.lst (ys ++ [y]))) else Pv (i + 1) ys H3)
  (hd : ∀ ys H, Pv n ys H → Q (.ref D) H) :
  ∃ W : Nat → Nat → List V → Hp → Prop, (∃ m, W 0 m [] (upd H D (.lst []))) ∧ ∀ i m ys H, W i m ys H → H D = some (.lst ys) ∧
  (((Itr lo n).stop i H ∧ Q (.ref D) H) ∨ ((Itr lo n).go i H ∧ ys.length < sizeLine ∧ ∃ N : List V → Hp → Prop, (∀ ys' H', N ys' H' → ∃ m', m' < m ∧ W (i + 1) m' ys' H') ∧
   ∀ x H', (Itr lo n).yld i H x H' → g x (stLC σ k js) H' fun σ2 H2 => (σ2.drop k = frV σ js ∧ σ2.length = k + js.length) ∧ tt σ2 H2 fun b H3 => if b = true then te σ2 H3 fun y H4 => H4 D = some (.lst ys) ∧ N (ys ++ [y]) (upd H4 D (.lst (ys ++ [y]))) else N ys H3)) := by
 refine ⟨fun i m ys H => m = n - i ∧ i ≤ n ∧ Pv i ys H, ⟨n, by simp, Nat.zero_le _, h0⟩, ?_⟩
 rintro i m ys H ⟨rfl, hi, p⟩
 obtain ⟨e1, e2⟩ := hl i ys H hi p
 refine ⟨e1, ?_⟩
 by_cases hlt : i < n
 ·refine .inr ⟨hlt, by omega, Pv (i + 1), fun ys' H' p' => ⟨n - (i + 1), by omega, rfl, hlt, p'⟩, fun x H' y => ?_⟩
  obtain ⟨e, y⟩ := y
  subst e y
  exact hs i ys _ hlt p
 ·have e : i = n := by omega
  subst e
  exact .inl ⟨Nat.le_refl _, hd ys H p⟩
theorem lc_list {K : PySem.W.Frag} {a : Addr} {xs : List V} {g : TG} {tt : TT} {te : TE} {k : Nat} {js : List Nat} {σ : St} {D : Addr} {Q : VK} {H : Hp} (Pv : Nat → List V → Hp → Prop) (h0 : Pv 0 [] (upd H D (.lst [])))
  (hn : xs.length < sizeLine) (hl : ∀ i ys H, i ≤ xs.length → Pv i ys H → H D = some (.lst ys) ∧ ys.length ≤ i ∧ SqL K H a xs)
  (hs : ∀ i x ys H, xs[i]? = some x → Pv i ys H → g x (stLC σ k js) H fun σ2 H2 => (σ2.drop k = frV σ js ∧ σ2.length = k + js.length) ∧ tt σ2 H2 fun b H3 => if b = true then te σ2 H3 fun y H4 => H4 D = some (.lst ys) ∧ Pv (i + 1) (ys ++ [y]) (upd H4 D (.lst (ys ++ [y]))) else Pv (i + 1) ys H3)
  (hd : ∀ ys H, Pv xs.length ys H → Q (.ref D) H) :
  ∃ W : Nat → Nat → List V → Hp → Prop, (∃ m, W 0 m [] (upd H D (.lst []))) ∧ ∀ i m ys H, W i m ys H → H D = some (.lst ys) ∧
  (((Itl K a).stop i H ∧ Q (.ref D) H) ∨ ((Itl K a).go i H ∧ ys.length < sizeLine ∧ ∃ N : List V → Hp → Prop, (∀ ys' H', N ys' H' → ∃ m', m' < m ∧ W (i + 1) m' ys' H') ∧
   ∀ x H', (Itl K a).yld i H x H' → g x (stLC σ k js) H' fun σ2 H2 => (σ2.drop k = frV σ js ∧ σ2.length = k + js.length) ∧ tt σ2 H2 fun b H3 => if b = true then te σ2 H3 fun y H4 => H4 D = some (.lst ys) ∧ N (ys ++ [y]) (upd H4 D (.lst (ys ++ [y]))) else N ys H3)) := by
 refine ⟨fun i m ys H => m = xs.length - i ∧ i ≤ xs.length ∧ Pv i ys H, ⟨xs.length, by simp, Nat.zero_le _, h0⟩, ?_⟩
 rintro i m ys H ⟨rfl, hi, p⟩
 obtain ⟨e1, e2, q⟩ := hl i ys H hi p
 refine ⟨e1, ?_⟩
 by_cases hlt : i < xs.length
 ·refine .inr ⟨⟨xs, xs[i], q, by simp [hlt]⟩, by omega, Pv (i + 1), fun ys' H' p' => ⟨xs.length - (i + 1), by omega, rfl, hlt, p'⟩, fun x H' y => ?_⟩
  obtain ⟨e, y⟩ := y
  subst e
  exact hs i x ys _ (y xs q) p
 ·have e : i = xs.length := by omega
  subst e
  exact .inl ⟨⟨xs, q, Nat.le_refl _⟩, hd ys H p⟩
end L2
namespace L2
open PySem PySem.Spec PyProof.Rows
section
variable {X : Cx} {st : Stmt} {rest : List Stmt} {t u : TS}
noncomputable def tCut (t u : TS) : TS := fun D σ H => ∃ Pv : St → Hp → Prop, t { D with nx := Pv } σ H ∧ ∀ σ H, Pv σ H → u D σ H
theorem pss_cut (h1 : PS X st t) (h2 : PSs X rest u) : PSs X (st :: rest) (tCut t u) := by
 intro pins s σ H D I h
 obtain ⟨Pv, ha, hb⟩ := h
 refine wpAny_execs_cons (thn (h1 pins s σ H { D with nx := Pv } I ha) fun f s1 q => ?_)
 cases f with
 | next =>
  obtain ⟨σ', H', I', q⟩ := q
  exact h2 pins s1 σ' H' D I' (hb σ' H' q)
 | ret v => exact q
 | brk => exact q
 | cont => exact q
end
theorem CMulA.of {m n : Nat} {i j : Int} (h : Bd m i) (k : Bd n j) (hm : m ≤ 100000) (hn : n ≤ 100000) : CMulA i j := .inr ⟨h.mono hm, k.mono hn⟩
theorem CMulA.left {i j : Int} (h1 : -(2 ^ 64) < i) (h2 : i < 2 ^ 64) : CMulA i j := .inl (.inl ⟨h1, h2⟩)
theorem CMulA.right {i j : Int} (h1 : -(2 ^ 64) < j) (h2 : j < 2 ^ 64) : CMulA i j := .inl (.inr ⟨h1, h2⟩)
noncomputable def Feed (H : Hp) (p : Addr) : Prop := ∃ a b c : Int, H p = some (.lst [.int a, .int b, .int c])
structure FX (p : Addr) (H H' : Hp) : Prop where
 feed : Feed H' p
 keep : ∀ b o, b ≠ p → H b = some o → H' b = some o
theorem FX.trans {p : Addr} {H H1 H2 : Hp} (a : FX p H H1) (b : FX p H1 H2) : FX p H H2 := ⟨b.feed, fun c o hc h => b.keep c o hc (a.keep c o hc h)⟩
theorem FX.refl {p : Addr} {H : Hp} (h : Feed H p) : FX p H H := ⟨h, fun _ _ _ h => h⟩
theorem FX.upd {p q : Addr} {H H1 : Hp} {o : HO} (a : FX p H H1) (h : H1 q = none) : FX p H (L2.upd H1 q o) := by
 obtain ⟨x, y, z, e⟩ := a.feed
 exact ⟨⟨x, y, z, by rw [upd_ne (ne_of_none e h)]; exact e⟩, fun b u hb hu => by rw [upd_ne (ne_of_none (a.keep b u hb hu) h)]; exact a.keep b u hb hu⟩
theorem FX.set {p q : Addr} {H H1 : Hp} {o : HO} (a : FX p H H1) (hn : H q = none) (hq : q ≠ p) : FX p H (L2.upd H1 q o) := by
 obtain ⟨x, y, z, e⟩ := a.feed
 refine ⟨⟨x, y, z, by rw [upd_ne (Ne.symm hq)]; exact e⟩, fun b u hb hu => ?_⟩
 rw [upd_ne (ne_of_none hu hn)]
 exact a.keep b u hb hu
theorem FX.ext {p : Addr} {H H' : Hp} {o : HO} (h : H p = none) (a : FX p (L2.upd H p o) H') : Ext H H' := fun b u e => a.keep b u (ne_of_none e h) (by rw [upd_ne (ne_of_none e h)]; exact e)
theorem Feed.upd {p q : Addr} {H : Hp} {o : HO} (a : Feed H p) (h : H q = none) : Feed (L2.upd H q o) p := by
 obtain ⟨x, y, z, e⟩ := a
 exact ⟨x, y, z, by rw [upd_ne (ne_of_none e h)]; exact e⟩
theorem upd_f {H : Hp} {q b : Addr} {o u : HO} (h : H q = none) (e : H b = some u) : upd H q o b = some u := by rw [upd_ne (ne_of_none e h)]; exact e
end L2
namespace L2
open PySem PySem.Spec PyProof.Rows
theorem Bd.lit {n : Nat} {i : Int} (h : i.natAbs < 2 ^ 64) (hn : 64 ≤ n) : Bd n i := Bd.mono (m := 64) h hn
theorem bd10 : Bd 100000 10 = True := eq_true (Bd.lit (by decide) (by decide))
theorem bd64 : Bd 9000 64 = True := eq_true (Bd.lit (by decide) (by decide))
theorem bd2 : Bd 9000 2 = True := eq_true (Bd.lit (by decide) (by decide))
theorem bd4 : Bd 9000 4 = True := eq_true (Bd.lit (by decide) (by decide))
theorem bd3 : Bd 9000 3 = True := eq_true (Bd.lit (by decide) (by decide))
theorem CMulA.mod {x m y : Int} (h0 : 0 < m) (h : m ≤ 2 ^ 64) : CMulA (x % m) y := by
 have h1 := Int.emod_nonneg x (by omega : m ≠ 0)
 have h2 := Int.emod_lt_of_pos x h0
 exact .left (by omega) (by omega)
theorem ixN_3_0 : ixN 3 0 = some 0 := rfl
theorem ixN_3_1 : ixN 3 1 = some 1 := rfl
theorem ixN_3_2 : ixN 3 2 = some 2 := rfl
theorem ixN_2_0 : ixN 2 0 = some 0 := rfl
theorem ixN_2_1 : ixN 2 1 = some 1 := rfl
theorem ixN_4_0 : ixN 4 0 = some 0 := rfl
theorem ixN_4_1 : ixN 4 1 = some 1 := rfl
theorem ixN_4_2 : ixN 4 2 = some 2 := rfl
theorem ixN_4_3 : ixN 4 3 = some 3 := rfl
theorem atI_mod {xs : List Int} {k : Int} (h : 0 < xs.length) : ∃ x, atI (xs.map V.int) (k % (xs.length : Int)) = some (.int x) ∧ x ∈ xs := by
 have h1 := Int.emod_nonneg k (by omega : (xs.length : Int) ≠ 0)
 have h2 := Int.emod_lt_of_pos k (by omega : 0 < (xs.length : Int))
 obtain ⟨j, hj⟩ : ∃ j : Nat, k % (xs.length : Int) = (j : Int) := ⟨(k % (xs.length : Int)).toNat, by omega⟩
 rw [hj] at h2 ⊢
 have hjl : j < xs.length := by omega
 exact ⟨xs[j], atI_nat (by rw [List.getElem?_map]; simp [hjl]), List.getElem_mem hjl⟩
end L2
namespace L2
open PySem PySem.Spec PyProof.Rows
section
variable {g : TG} {tt : TT} {te tl : TE} {ta : TA} {k : Nat} {js : List Nat} {σ : St} {Q : VK} {H : Hp} {tb : TS} {Dn : Ends} {K : PySem.W.Frag} {a : Addr} {xs : List V}
theorem tlc_range (n : Nat) (ha : ∀ R : List V → Hp → Prop, R [.int n] H → ta σ H R) (hn : n < 1000000) (Pv : Addr → Nat → List V → Hp → Prop) (h0 : ∀ D, H D = none → Pv D 0 [] (upd H D (.lst [])))
  (hl : ∀ D i ys H, i ≤ n → Pv D i ys H → H D = some (.lst ys) ∧ ys.length ≤ i)
  (hs : ∀ D i ys H1, H D = none → i < n → Pv D i ys H1 → g (.int (0 + (i : Int))) (L2.stLC σ k js) H1 fun σ2 H2 => (σ2.drop k = frV σ js ∧ σ2.length = k + js.length) ∧ tt σ2 H2 fun b H3 => if b = true then te σ2 H3 fun y H4 => H4 D = some (.lst ys) ∧ Pv D (i + 1) (ys ++ [y]) (upd H4 D (.lst (ys ++ [y]))) else Pv D (i + 1) ys H3)
  (hd : ∀ D ys H1, H D = none → Pv D n ys H1 → Q (.ref D) H1) : tLC (iRng1 ta) k js g tt te σ H Q :=
 ha _ ⟨n, rfl, by omega, by omega, fun D hD => lc_range (lo := 0) (n := (n : Int).toNat) (Pv D) (h0 D hD) (Nat.lt_trans (by simpa using hn) (by decide)) (fun i ys H hi p => hl D i ys H (by simpa using hi) p) (fun i ys H hi p => hs D i ys H hD (by simpa using hi) p) (fun ys H p => hd D ys H hD (by simpa using p))⟩
theorem tlc_list (ha : ∀ R : VK, R (.ref a) H → tl σ H R) (hq : SqL K H a xs) (hn : xs.length < 1000000) (Pv : Addr → Nat → List V → Hp → Prop) (h0 : ∀ D, H D = none → Pv D 0 [] (upd H D (.lst [])))
  (hl : ∀ D i ys H, i ≤ xs.length → Pv D i ys H → H D = some (.lst ys) ∧ ys.length ≤ i ∧ SqL K H a xs)
  (hs : ∀ D i x ys H1, H D = none → xs[i]? = some x → Pv D i ys H1 → g x (L2.stLC σ k js) H1 fun σ2 H2 => (σ2.drop k = frV σ js ∧ σ2.length = k + js.length) ∧ tt σ2 H2 fun b H3 => if b = true then te σ2 H3 fun y H4 => H4 D = some (.lst ys) ∧ Pv D (i + 1) (ys ++ [y]) (upd H4 D (.lst (ys ++ [y]))) else Pv D (i + 1) ys H3)
  (hd : ∀ D ys H1, H D = none → Pv D xs.length ys H1 → Q (.ref D) H1) : tLC (iList K tl) k js g tt te σ H Q :=
 ha _ ⟨a, rfl, ⟨xs, hq⟩, fun D hD => lc_list (Pv D) (h0 D hD) (Nat.lt_trans hn (by decide)) (fun i ys H hi p => hl D i ys H hi p) (fun i x ys H hi p => hs D i x ys H hD hi p) (fun ys H p => hd D ys H hD p)⟩
theorem tfor_range (n : Nat) (ha : ∀ R : List V → Hp → Prop, R [.int n] H → ta σ H R) (hn : n < 1000000) (Pv : Nat → St → Hp → Prop) (h0 : Pv 0 σ H)
  (hs : ∀ i σ H, i < n → Pv i σ H → g (.int (0 + (i : Int))) σ H fun σ2 H2 => tb { Dn with nx := Pv (i + 1), ct := Pv (i + 1), bk := Dn.nx } σ2 H2) (hd : ∀ σ H, Pv n σ H → Dn.nx σ H) : tFor (iRng1 ta) g tb Dn σ H :=
 ha _ ⟨n, rfl, by omega, by omega, for_range (lo := 0) (n := (n : Int).toNat) Pv h0 (fun i σ H hi p => hs i σ H (by simpa using hi) p) (fun σ H p => hd σ H (by simpa using p))⟩
theorem tfor_list (ha : ∀ R : VK, R (.ref a) H → tl σ H R) (Pv : Nat → St → Hp → Prop) (h0 : Pv 0 σ H) (hl : ∀ i σ H, i ≤ xs.length → Pv i σ H → SqL K H a xs)
  (hs : ∀ i x σ H, xs[i]? = some x → Pv i σ H → g x σ H fun σ2 H2 => tb { Dn with nx := Pv (i + 1), ct := Pv (i + 1), bk := Dn.nx } σ2 H2) (hd : ∀ σ H, Pv xs.length σ H → Dn.nx σ H) : tFor (iList K tl) g tb Dn σ H :=
 ha _ ⟨a, rfl, ⟨xs, hl 0 σ H (Nat.zero_le _) h0⟩, for_list (xs := xs) Pv h0 hl hs hd⟩
end
end L2
namespace L2
open PySem PySem.Spec PyProof.Rows
section
variable {X : Cx} {K : PySem.W.Frag}
theorem call_isiK (hK : X.K = K) : CallR X (.builtin "isinstance") (rIsi K) := by subst hK; exact call_isi
noncomputable def rLenK (K : PySem.W.Frag) : List V → Hp → VK → Prop := fun xs H Q => ∃ p ys, xs = [.ref p] ∧ (SqL K H p ys ∨ SqT K H p ys) ∧ Q (.int ys.length) H
theorem call_lenK (hK : X.K = K) : CallR X (.builtin "len") (rLenK K) := by subst hK; exact call_len_seq
theorem ix_listK (hK : X.K = K) : IxR X (rIxL K) := by subst hK; exact ix_list
theorem call_allK (hK : X.K = K) (hc : X.calm = true) : CallR X (.builtin "all") (rAllB K fun bs => bs.all id) := by subst hK; exact call_all hc
theorem op_eqDK (hK : X.K = K) (hu : X.A.units + 64 < cLine) : OpR X (compareOp .Eq) (rEqD K id) := by subst hK; exact op_eqD hu
theorem op_neDK (hK : X.K = K) (hu : X.A.units + 64 < cLine) : OpR X (compareOp .NotEq) (rEqD K not) := by subst hK; exact op_neD hu
theorem op_notIn_seqK (hK : X.K = K) : OpR X (compareOp .NotIn) (rIn K true) := by subst hK; exact op_notIn_seq
theorem pi_listK {tg l : Expr} {tl : TE} (hK : X.K = K) (hl : PE X l tl) : PI X tg l (iList K tl) := by subst hK; exact pi_list hl
end
end L2
namespace L2
open PySem
theorem Feed.ne {p t : Addr} {H : Hp} (h : Feed H p) (ht : H t = none) : t ≠ p := by
 obtain ⟨a, b, c, e⟩ := h
 exact (ne_of_none e ht).symm
end L2
set_option Elab.async false
set_option linter.all false
set_option maxRecDepth 100000
namespace L2
open PySem PySem.Spec PyProof.Rows
noncomputable def lstOf (o : Option HO) : Option (List V) := match o with
 | some (.lst xs) => some xs
 | _ => none
theorem lstOf_l (xs : List V) : lstOf (some (.lst xs)) = some xs := rfl
theorem lstOf_eq {o : Option HO} {xs : List V} (h : lstOf o = some xs) : o = some (.lst xs) := by
 cases o with
 | none => cases h
 | some o =>
  cases o with
  | lst ys => rw [show ys = xs from Option.some.inj h]
  | _ => cases h
theorem optK_elim {α : Type} {o : Option α} {k : α → Prop} (h : optK o k) : ∃ v, o = some v ∧ k v := by
 unfold optK at h
 split at h
 ·exact ⟨_, rfl, h⟩
 ·exact h.elim
theorem seqOf_sq {K : PySem.W.Frag} {H : Hp} {p : Addr} {xs : List V} (h : seqOf (H p) = some xs) : SqL K H p xs ∨ SqT K H p xs := by
 cases e : H p with
 | none => rw [e] at h; cases h
 | some o =>
  rw [e] at h
  cases o with
  | lst ys => rw [show ys = xs from Option.some.inj h] at e; exact .inl (SqL.of e)
  | tup ys => rw [show ys = xs from Option.some.inj h] at e; exact .inr (SqT.of e)
  | _ => cases h
section
variable {X : Cx} {e : Expr}
theorem PE.imp {t t' : TE} (h : PE X e t) (i : ∀ σ H Q, t' σ H Q → t σ H Q) : PE X e t' := fun pins s σ H Q I hw => h pins s σ H Q I (i σ H Q hw)
noncomputable def tUp (t : TE) : TE := fun σ H Q => ∃ R : VK, t σ H R ∧ ∀ x H1, R x H1 → Q x H1
theorem PE.up {t : TE} (h : PE X e t) : PE X e (tUp t) := fun pins s σ H Q I ⟨R, hw, hq⟩ => thn (h pins s σ H R I hw) fun v s1 ⟨x, H1, I1, r1, q1⟩ => ⟨x, H1, I1, r1, hq x H1 q1⟩
end
theorem small6 {n : Nat} (h : n < 1000000) : n < sizeLine := Nat.lt_trans h (by decide)
noncomputable def appR : V → List V → Hp → VK → Prop := fun x vs H Q => match x, vs with
 | .ref l, [y] => optK (lstOf (H l)) fun xs => xs.length < 1000000 ∧ Q .non (upd H l (.lst (xs ++ [y])))
 | _, _ => False
noncomputable def popR : V → List V → Hp → VK → Prop := fun x vs H Q => match x, vs with
 | .ref l, [] => optK (lstOf (H l)) fun xs => optK xs.getLast? fun y => Q y (upd H l (.lst xs.dropLast))
 | _, _ => False
section
variable {X : Cx}
theorem mt_app : MtM X "list.append" appR := by
 intro pins s σ H x vs v us Q I rx rv h
 unfold appR at h
 split at h
 ·rename_i l y
  obtain ⟨xs, e, hz, q⟩ := optK_elim h
  exact mt_append pins s σ H _ _ v us Q I rx rv ⟨l, xs, y, rfl, rfl, lstOf_eq e, small6 hz, q⟩
 ·exact h.elim
theorem mt_popF : MtM X "list.pop" popR := by
 intro pins s σ H x vs v us Q I rx rv h
 unfold popR at h
 split at h
 ·rename_i l
  obtain ⟨xs, e, h⟩ := optK_elim h
  obtain ⟨y, ey, q⟩ := optK_elim h
  refine mt_pop pins s σ H _ _ v us Q I rx rv ⟨l, xs, y, rfl, rfl, lstOf_eq e, ?_, q⟩
  rw [List.getLast?_eq_getElem?] at ey
  exact ey
 ·exact h.elim
noncomputable def tML (r : V → List V → Hp → VK → Prop) (to : TE) (t : TA) : TE := fun σ H Q => to σ H fun x H1 => match x with
 | .ref l => (lstOf (H1 l)).isSome = true ∧ t σ H1 fun vs H2 => r x vs H2 Q
 | _ => False
end
section
variable {X : Cx} {K : PySem.W.Frag} {a b : Expr} {ta tb : TE} {pos : Pos}
noncomputable def catF : R2 := fun x y H Q => match x, y with
 | .ref a, .ref b => optK (lstOf (H a)) fun xs => optK (lstOf (H b)) fun ys => xs.length + ys.length < 1000000 ∧ ∀ p, H p = none → Q (.ref p) (upd H p (.lst (xs ++ ys)))
 | _, _ => False
theorem op_catF : OpR X (binaryOp .Add) catF := by
 intro pins s σ H x y v u Q I rx ry h
 unfold catF at h
 split at h
 ·rename_i p q
  obtain ⟨xs, e, h⟩ := optK_elim h
  obtain ⟨ys, e', hz, k⟩ := optK_elim h
  exact op_cat pins s σ H _ _ v u Q I rx ry ⟨p, q, xs, ys, rfl, rfl, lstOf_eq e, lstOf_eq e', Nat.le_of_lt (small6 hz), k⟩
 ·exact h.elim
noncomputable def listF : List V → Hp → VK → Prop := fun vs H Q => match vs with
 | [.ref p] => optK (seqOf (H p)) fun ys => ∀ l, H l = none → Q (.ref l) (upd H l (.lst ys))
 | _ => False
noncomputable def lenF : List V → Hp → VK → Prop := fun vs H Q => match vs with
 | [.ref p] => optK (seqOf (H p)) fun ys => Q (.int ys.length) H
 | _ => False
theorem call_lenF : CallR X (.builtin "len") lenF := by
 intro pins s σ H xs us Q I r h
 unfold lenF at h
 split at h
 ·rename_i p
  obtain ⟨ys, e, h⟩ := optK_elim h
  exact call_len_seq pins s σ H _ us Q I r ⟨p, ys, rfl, seqOf_sq e, h⟩
 ·exact h.elim
noncomputable def slF : V → Option Int → Option Int → Hp → VK → Prop := fun x lo hi H Q => match x with
 | .ref a => optK (lstOf (H a)) fun xs => ∀ p, H p = none → Q (.ref p) (upd H p (.lst (cutV xs lo hi)))
 | _ => False
theorem sl_F : SlR X slF := by
 intro pins s σ H x v vl vu lo hi sl Q I rx hs pl pu h
 unfold slF at h
 split at h
 ·rename_i p
  obtain ⟨ys, e, h⟩ := optK_elim h
  exact sl_list pins s σ H _ v vl vu lo hi sl Q I rx hs pl pu ⟨p, ys, rfl, SqL.of (lstOf_eq e), h⟩
 ·exact h.elim
noncomputable def tyN (H : Hp) : V → Option String
 | .non => some "NoneType"
 | .bl _ => some "bool"
 | .int _ => some "int"
 | .str _ => some "str"
 | .ref a => (match H a with
  | some (.lst _) => some "list"
  | some (.tup _) => some "tuple"
  | _ => none)
 | _ => none
noncomputable def isiT : String → String → Option Bool
 | "int", "int" => some true | "int", "bool" => some false | "bool", "int" => some true | "bool", "bool" => some true
 | "tuple", "tuple" => some true | "list", "list" => some true | "list", "tuple" => some false | "tuple", "list" => some false | _, _ => none
noncomputable def isiF : List V → Hp → VK → Prop := fun vs H Q => match vs with
 | [x, .ty T] => optK (tyN H x) fun n => optK (isiT n T) fun b => Q (.bl b) H
 | _ => False
end
section
variable {X : Cx} {o e : Expr} {to : TE} {t : TA} {apos cpos : Pos}
theorem pe_app (ho : PE X o to) (ha : PA X [e] t)
  (hbase : attributeBase o "append" X.env (eval o X.env) = eval o X.env := by rfl)
  (hfew : ((backTo cpos (starEach [e] X.env)).all (fun x => !x.1) && (backToKw cpos (keywordEach [] X.env)).all (fun x => x.1.isSome)
   && decide ([e].length + ([] : List Keyword).length + (if ([] : List Keyword).isEmpty then 0 else 1) < 30)) = true := by rfl)
  (hline : (apos.endLine == cpos.line) = true := by rfl) (hs : starEach [e] X.env = (false, eval e X.env) :: starEach [] X.env := by rfl) (hplain : (backTo cpos (starEach [] X.env)).any (·.1) = false := by rfl) :
  PE X (.Call (.Attribute o "append" apos) [e] [] cpos) (tML appR to t) := by
 intro pins s σ H Q I h
 refine pe_bm PySem.F.plainAttrs_list PySem.F.slot_list_append PySem.F.type_list_append mt_app ho.up ha hbase hfew hline hs hplain pins s σ H Q I ⟨_, h, fun x H1 q => ?_⟩
 cases x with
 | ref l =>
  obtain ⟨h1, h2⟩ := q
  obtain ⟨xs, e⟩ := Option.isSome_iff_exists.mp h1
  exact ⟨.inl ⟨rfl, xs, SqL.of (lstOf_eq e)⟩, h2⟩
 | _ => exact q.elim
noncomputable def tML0 (r : V → List V → Hp → VK → Prop) (to : TE) : TE := fun σ H Q => to σ H fun x H1 => match x with
 | .ref l => (lstOf (H1 l)).isSome = true ∧ r x [] H1 Q
 | _ => False
theorem pe_pop0 (ho : PE X o to) (hbase : attributeBase o "pop" X.env (eval o X.env) = eval o X.env := by rfl) (hline : (apos.endLine == cpos.line) = true := by rfl) : PE X (.Call (.Attribute o "pop" apos) [] [] cpos) (tML0 popR to) := by
 intro pins s σ H Q I h
 refine pe_bm0 PySem.F.plainAttrs_list PySem.F.slot_list_pop PySem.F.type_list_pop mt_popF ho.up hbase hline pins s σ H Q I ⟨_, h, fun x H1 q => ?_⟩
 cases x with
 | ref l =>
  obtain ⟨h1, h2⟩ := q
  obtain ⟨xs, e⟩ := Option.isSome_iff_exists.mp h1
  exact ⟨.inl ⟨rfl, xs, SqL.of (lstOf_eq e)⟩, h2⟩
 | _ => exact q.elim
end
theorem isiT_1 : isiT "int" "int" = some true := rfl
theorem isiT_2 : isiT "int" "bool" = some false := rfl
theorem isiT_3 : isiT "bool" "int" = some true := rfl
theorem isiT_4 : isiT "bool" "bool" = some true := rfl
theorem isiT_5 : isiT "tuple" "tuple" = some true := rfl
theorem isiT_6 : isiT "list" "list" = some true := rfl
theorem isiT_7 : isiT "list" "tuple" = some false := rfl
end L2
namespace L2
open PySem
theorem Ext.set {H H2 : Hp} {D : Addr} {o : HO} (x : Ext H H2) (hD : H D = .none) : Ext H (L2.upd H2 D o) := fun b u e => by rw [upd_ne (ne_of_none e hD)]; exact x b u e
theorem FX.more {p : Addr} {H H1 H2 : Hp} (f : FX p H H1) (x : Ext H1 H2) : FX p H H2 := by
 obtain ⟨a, b, c, e⟩ := f.feed
 exact ⟨⟨a, b, c, x _ _ e⟩, fun b u hb e => x _ _ (f.keep b u hb e)⟩
end L2
namespace L2
open PySem
noncomputable def tup3 (o : Option HO) : Option (Int × Int × Int) := match o with
 | some (.tup [.int a, .int b, .int c]) => some (a, b, c)
 | _ => none
theorem tup3_some (a b c : Int) : tup3 (some (.tup [.int a, .int b, .int c])) = some (a, b, c) := rfl
theorem tup3_eq {o : Option HO} {x : Int × Int × Int} (h : tup3 o = some x) : o = some (.tup [.int x.1, .int x.2.1, .int x.2.2]) := by
 unfold tup3 at h
 split at h
 ·cases h
  rfl
 ·cases h
noncomputable def tup2 (o : Option HO) : Option (Int × Int) := match o with
 | some (.tup [.int a, .int b]) => some (a, b)
 | _ => none
theorem tup2_some (a b : Int) : tup2 (some (.tup [.int a, .int b])) = some (a, b) := rfl
noncomputable def B3 (n : Nat) (x : Int × Int × Int) : Prop := Bd n x.1 ∧ Bd n x.2.1 ∧ Bd n x.2.2
noncomputable def B2 (n : Nat) (x : Int × Int) : Prop := Bd n x.1 ∧ Bd n x.2
end L2
namespace L2
open PySem
section
variable {X : Cx} {pos : Pos}
noncomputable def gSeqF (n : Nat) (t : TGs) : TG := fun v σ H Q => match v with
 | .ref a => optK (seqOf (H a)) fun xs => xs.length = n ∧ t xs σ H Q
 | _ => False
theorem pg_F {es : List Expr} {k : Nat} {t : TGs} {n : Nat} (hc : X.calm = true) (h : PGs X es t)
  (hn : (assignEach es X.env).length = n := by rfl) (hst : (assignEach es X.env).findIdx? (·.1) = none := by rfl) : PG X (.Tuple es k pos) (gSeqF n t) := by
 intro pins s σ H v u Q I r hw
 unfold gSeqF at hw
 split at hw
 ·rename_i a
  obtain ⟨xs, e, hl, q⟩ := optK_elim hw
  rcases seqOf_sq (K := X.K) e with e | e
  ·exact pg_seq hc h hn hst pins s σ H _ u Q I r (.inr ⟨a, xs, rfl, e, hl, q⟩)
  ·exact pg_seq hc h hn hst pins s σ H _ u Q I r (.inl ⟨a, xs, rfl, e, hl, q⟩)
 ·exact hw.elim
end
end L2
namespace L2
open PySem
theorem Ext.fx {p : Addr} {H H1 H2 : Hp} (x : Ext H H1) (hp : H p = .none) (f : FX p H1 H2) : Ext H H2 := fun b o e => f.keep b o (ne_of_none e hp) (x b o e)
end L2
namespace L2
open PySem
theorem eqv_t2 (a b c d : Int) : PyData.eqv (.tuple [.int a, .int b]) (.tuple [.int c, .int d]) = decide (a = c ∧ b = d) := by
 rw [Bool.eq_iff_iff]
 simp [PyData.eqv, PyData.eqvAll]
theorem rdy_t2 {K : PySem.W.Frag} {H : Hp} {q : Addr} {a b : Int} (e : H q = some (.tup [.int a, .int b])) : Rdy K H (.ref q) (.tuple [.int a, .int b]) := .tup (SqT.of e) (.cons (.int a) (.cons (.int b) .nil))
end L2
set_option Elab.async false
set_option linter.all false
set_option maxRecDepth 100000
namespace L2
open PySem PySem.Spec PyProof.Rows
structure ExcC (K : PySem.W.Frag) (C : Addr) : Prop where
 exc : PySem.W.excIn K C [.type "ValueError", .type "Exception", .type "BaseException", .type "object"] "ValueError.__new__" = true
 ga : PySem.W.findIn K (.ref C) "__getattribute__" = some (some (.builtin "BaseException.__getattribute__"))
 nog : PySem.W.findIn K (.ref C) "__getattr__" = some none
 cl : PySem.W.findIn K (.ref C) "__class__" = some (some (.builtin "object.__class__"))
 hn : PySem.W.specialIn K (.builtin "object.__class__") "__get__" = some (some (.builtin "getset_descriptor.__get__"))
 htk : PySem.W.takesIn K (.builtin "object.__class__") = some true
 isc : (PySem.W.clsIn K C).isSome = true
 sube : PySem.W.mroIn K C (.type "BaseException") = some true
 subo : PySem.W.mroIn K C (.type "object") = some true
noncomputable def ExcB (K : PySem.W.Frag) (C : Addr) : Prop :=
 PySem.W.findIn K (.ref C) "__getattribute__" = some (some (.builtin "BaseException.__getattribute__")) ∧ PySem.W.findIn K (.ref C) "__getattr__" = some none ∧
 PySem.W.findIn K (.ref C) "__class__" = some (some (.builtin "object.__class__")) ∧ PySem.W.specialIn K (.builtin "object.__class__") "__get__" = some (some (.builtin "getset_descriptor.__get__")) ∧
 PySem.W.takesIn K (.builtin "object.__class__") = some true ∧ (PySem.W.clsIn K C).isSome = true ∧ PySem.W.mroIn K C (.type "BaseException") = some true ∧ PySem.W.mroIn K C (.type "object") = some true
noncomputable def IsExc (a C : Addr) (h : Heap) : Prop := ∃ (o : Obj) (vs : Array Value), h.get? a = some o ∧ o.cls = .ref C ∧ o.data = .fields vs
section
open PySem.W PySem.Builtin PySem.Builtin.ObjectAttr PySem.Builtin.Getset_descriptor
variable {prog : Program} {w : World} {A : Around} {E : Value → Shared → Prop} {h : Heap} {g : Array GenState} {d : Drawn} {t : Nat} {os : OsState} {a : Addr} {o : Obj} {vs : Array Value} {C : Addr} {K : PySem.W.Frag}
theorem IsExc.type {M : Model} (I : IsExc a C h) : Looks M h (typeOf (.ref a)) (.ref C) := by
 obtain ⟨o, vs, h1, h2, h3⟩ := I
 exact h2 ▸ (Looks.ld h1).andThen .now
end
theorem ExcC.b {K : PySem.W.Frag} {C : Addr} (T : ExcC K C) : ExcB K C := ⟨T.ga, T.nog, T.cl, T.hn, T.htk, T.isc, T.sube, T.subo⟩
noncomputable def IsExcD (a C : Addr) (od : Option Addr) (h : Heap) : Prop := ∃ (o : Obj) (vs : Array Value), h.get? a = some o ∧ o.cls = .ref C ∧ o.data = .fields vs ∧ ∀ dx, od = some dx → o.dict = some dx
theorem IsExcD.e {a C : Addr} {od : Option Addr} {h : Heap} (x : IsExcD a C od h) : IsExc a C h := by
 obtain ⟨o, vs, h1, h2, h3, _⟩ := x
 exact ⟨o, vs, h1, h2, h3⟩
noncomputable def excD (a C : Addr) (od : Option Addr) : HO := .ext (IsExcD a C od)
end L2
set_option Elab.async false
set_option linter.all false
set_option maxRecDepth 100000
namespace L2
open PySem PySem.Spec PyProof.Rows
noncomputable def DKept (h h' : Heap) : Prop := ∀ a o, h.get? a = some o → ∃ o', h'.get? a = some o' ∧ o'.dict = o.dict
theorem DKept.refl {h : Heap} : DKept h h := fun a o e => ⟨o, e, rfl⟩
theorem DKept.trans {h1 h2 h3 : Heap} (x : DKept h1 h2) (y : DKept h2 h3) : DKept h1 h3 := fun a o e => by
 obtain ⟨o1, e1, d1⟩ := x a o e
 obtain ⟨o2, e2, d2⟩ := y a o1 e1
 exact ⟨o2, e2, d2.trans d1⟩
inductive KD {α : Type} : Sem α → Prop
 | pure (a : α) : KD (.pure a)
 | raise (e : Value) : KD (.raise e)
 | uns (x : String) : KD (.unsupported x)
 | rule {t : String} {k : Unit → Sem α} : KD (k ()) → KD (.rule t k)
 | at {p : Pos} {k : Unit → Sem α} : KD (k ()) → KD (.at p k)
 | load {a : Addr} {p : Option Value} {k : Obj → Sem α} : (∀ o, KD (k o)) → KD (.load a p k)
 | upd {a : Addr} {p : Option Value} {f : Obj → Obj} {k : Unit → Sem α} : (∀ o, (f o).dict = o.dict ∧ (o.isFreed = false → (f o).isFreed = false)) → KD (k ()) → KD (.update a p f k)
 | alloc {o : Obj} {k : Addr → Sem α} : (∀ a, KD (k a)) → KD (.alloc o k)
 | stack {k : List (Code × Pos) → Sem α} : (∀ l, KD (k l)) → KD (.stack k)
 | ask {k : Setting → Sem α} : (∀ l, KD (k l)) → KD (.ask k)
 | fresh {k : Tok → Sem α} : (∀ l, KD (k l)) → KD (.fresh k)
theorem KD.bind {α β : Type} {t : Sem α} {f : α → Sem β} (h : KD t) (g : ∀ a, KD (f a)) : KD (t >>= f) := by
 induction h with
 | pure a => exact g a
 | raise e => exact .raise e
 | uns x => exact .uns x
 | rule _ ih => exact .rule ih
 | «at» _ ih => exact .at ih
 | load _ ih => exact .load ih
 | upd c _ ih => exact .upd c ih
 | alloc _ ih => exact .alloc ih
 | stack _ ih => exact .stack ih
 | ask _ ih => exact .ask ih
 | fresh _ ih => exact .fresh ih
theorem dk_upd {h : Heap} {a : Addr} {f : Obj → Obj} (c : ∀ o, (f o).dict = o.dict ∧ (o.isFreed = false → (f o).isFreed = false)) : DKept h (h.update a f) := by
 intro b o e
 by_cases hb : b = a
 ·subst hb
  obtain ⟨e1, e2⟩ := Heap.get?_some_iff.mp e
  refine ⟨f o, Heap.get?_some_iff.mpr ⟨?_, (c o).2 e2⟩, (c o).1⟩
  cases h with
  | mk objs l =>
   show (objs.modify b f)[b]? = _
   rw [Array.getElem?_modify, if_pos rfl]
   show Option.map f objs[b]? = _
   rw [show objs[b]? = some o from e1]
   rfl
 ·exact ⟨o, Heap.get?_update_of_ne f (Ne.symm hb) e, rfl⟩
theorem KD.wp {α : Type} {M : Model} {Γ : PySem.Ctx} {t : Sem α} (h : KD t) {h0 : Heap} : ∀ {Q : α → Pos → Shared → Prop} {E : Value → Pos → Shared → Prop} {p : Pos} {s : Shared}, DKept h0 s.heap → Sem.wp M Γ t Q E p s →
  Sem.wp M Γ t (fun a p' s' => Q a p' s' ∧ DKept h0 s'.heap) (fun e p' s' => E e p' s' ∧ DKept h0 s'.heap) p s := by
 induction h with
 | pure a => intro Q E p s d q; exact ⟨q, d⟩
 | raise e => intro Q E p s d q; exact ⟨q, d⟩
 | uns x => intro Q E p s d q; exact q
 | rule _ ih => intro Q E p s d q; exact ih d q
 | «at» _ ih => intro Q E p s d q; exact ih d q
 | load _ ih => intro Q E p s d q; obtain ⟨o, e, q⟩ := q; exact ⟨o, e, ih o d q⟩
 | upd c _ ih => intro Q E p s d q; obtain ⟨e, q⟩ := q; exact ⟨e, ih (d.trans (dk_upd c)) q⟩
 | alloc _ ih => intro Q E p s d q; exact ih _ (d.trans fun b o e => ⟨o, Heap.get?_push_of_some _ e, rfl⟩) q
 | stack _ ih => intro Q E p s d q; exact ih _ d q
 | ask _ ih => intro Q E p s d q; exact ih _ d q
 | fresh _ ih => intro Q E p s d q; exact ih _ d q
theorem KD.any {α : Type} {M : Model} {A : Around} {t : Sem α} (h : KD t) {Q : α → Shared → Prop} {E : Value → Shared → Prop} {s : Shared} (q : wpAny M A t Q E s) :
  wpAny M A t (fun a s' => Q a s' ∧ DKept s.heap s'.heap) (fun e s' => E e s' ∧ DKept s.heap s'.heap) s := fun Γ p hΓ => h.wp .refl (q Γ p hΓ)
end L2
set_option Elab.async false
set_option linter.all false
set_option maxRecDepth 100000
namespace L2
open PySem PySem.Spec PyProof.Rows
theorem ObjOk.there {P : Program} {w : World} {H : Hp} {h : Heap} {a : Addr} {o : HO} (x : ObjOk P w H h a o) : ∃ u, h.get? a = some u := by
 cases o with
 | lst xs => obtain ⟨_, _, _, _, e⟩ := x; exact ⟨_, e⟩
 | tup xs => obtain ⟨_, _, _, ob, e, _⟩ := x; exact ⟨_, e⟩
 | dK kvs => obtain ⟨_, _, _, _, ob, _, _, e, _⟩ := x; exact ⟨_, e⟩
 | dT kvs => obtain ⟨_, _, _, _, ob, _, _, e, _⟩ := x; exact ⟨_, e⟩
 | set S n => obtain ⟨ob, _, _, _, e, _⟩ := x; exact ⟨_, e⟩
 | ins C dx fs => obtain ⟨_, _, _, e, _⟩ := x; exact ⟨_, e⟩
 | own y => exact x
 | xd fs => obtain ⟨_, ⟨ob, _, _, e, _⟩, _⟩ := x; exact ⟨_, e⟩
 | rng lo hi => obtain ⟨_, _, _, e⟩ := x; exact ⟨_, e⟩
 | frz ob u => exact ⟨_, x.1⟩
 | tbl ps => obtain ⟨_, e, _⟩ := x; exact ⟨_, e⟩
 | met f y => exact ⟨_, (show h.get? a = some _ from x)⟩
 | ext φ => exact x.2.1
noncomputable def CXE (P : Program) (w : World) : CXT := fun outer H s E ev s' => ∃ (e C : Addr) (a0 : Value) (B : Heap) (H' : Hp) (od : Option Addr), ev = .ref e ∧ s'.os = s.os ∧ AllBare s'.gens ∧ Un (frs outer) [] H H' s.heap s'.heap ∧
 HOk P w H' s'.heap ∧ Heap.FlyingW B outer e (.ref C) a0 s'.heap ∧ (∀ b u, H' b = some u → ∃ o, B.get? b = some o) ∧ (∀ b o, s.heap.get? b = some o → b ∉ frs outer → ∃ o', B.get? b = some o') ∧ (∃ oe, s'.heap.get? e = some oe ∧ ∀ dx, od = some dx → oe.dict = some dx) ∧ E (.ref C) od H'
theorem passE0 {X : Cx} {P : Program} {w : World} : Passes (CXE P w) X E0 := fun _ _ _ _ _ _ _ h => by
 obtain ⟨_, _, _, _, _, _, _, _, _, _, _, _, _, _, _, hE⟩ := h
 exact hE.elim
noncomputable def tRaise (C : Addr) (E : XK) (t : TA) : TS := fun _ σ H => t σ H fun vs H1 => vs.length ≤ 3 ∧ E (.ref C) none H1
end L2
set_option Elab.async false
set_option linter.all false
set_option maxRecDepth 100000
namespace L2
open PySem PySem.Spec PyProof.Rows
noncomputable def tCallS (σ0 : St) (sp : Sp) (E : XK) (t : TA) : TE := fun σ H Q => t σ H fun vs H1 => σ = σ0 ∧ sp vs H1 Q E
noncomputable abbrev Cx.suite (X : Cx) (ev : Value) : Cx := { X with A := X.A.mark (some ev), calm := false, xe := fun _ _ => False }
section
variable {X : Cx} {pins pins' pn : List (Addr × Obj)} {σ : St} {H : Hp} {s : Shared} {W : Value → Shared → Prop} {ev : Value} {D : Ends} {f : Flow}
theorem Cx.Ok.suite (ok : X.Ok) : (X.suite ev).Ok :=
 ⟨ok.mod, ok.kind, ok.glob, ok.blt, ok.above, ok.inj, ok.has, ok.cab, (fun z => nomatch z), ok.frames, ok.stk, ok.exf, ok.bs, ok.bsz, ok.noex, ok.exfs, ok.funs, ok.frf⟩
theorem Inv.suite (I : Inv X pins σ H s) : Inv (X.suite ev) pins σ H s := ⟨I.ok.suite, I.os, I.bare, I.base, I.loc, I.cell, I.free, I.freeC, I.pin, I.hok, I.len⟩
theorem Inv.track {a : Addr} {o : HO} (I : Inv X pins σ H s) (hn : H a = none) (h0 : ∀ b u, X.s₀.heap.get? b = some u → b ∉ X.ex → b ≠ a) (hl : X.env.locals ≠ a) (hc : ∀ x c, X.env.cells.lookup x = some c → c ≠ a)
  (hp : ∀ p ∈ X.pn ++ pins, p.1 ≠ a) (new : ObjOk X.prog X.w (upd H a o) s.heap a o) : Inv X pins σ (upd H a o) s := by
 refine ⟨I.ok, I.os, I.bare, ⟨I.base.keep, I.base.slot, fun b u q n hx => ?_, I.base.there, fun b xs q => ?_, fun b u xs q => ?_, fun b ps q => ?_⟩, I.loc, I.cell, ?_, fun x c e => ?_, fun p hq => ?_, fun b u q => ?_, I.len⟩
 ·rw [upd_ne (h0 b u q hx)]
  exact I.base.free b u q n hx
 ·have z := I.base.tups b xs q
  rw [upd_ne (ne_of_none z hn)]
  exact z
 ·have z := I.base.frzs b u xs q
  rw [upd_ne (ne_of_none z hn)]
  exact z
 ·obtain ⟨more, z⟩ := I.base.tbls b ps q
  exact ⟨more, by rw [upd_ne (ne_of_none z hn)]; exact z⟩
 ·rw [upd_ne hl]
  exact I.free
 ·rw [upd_ne (hc x c e)]
  exact I.freeC x c e
 ·obtain ⟨e1, e2, e3, e4, e5⟩ := I.pin p hq
  exact ⟨e1, by rw [upd_ne (hp p hq)]; exact e2, e3, e4, e5⟩
 ·by_cases hb : b = a
  ·subst hb
   rw [upd_same] at q
   cases q
   exact new
  ·rw [upd_ne hb] at q
   exact (I.hok b u q).stay (fun c v _ z => z) (fun c z => by rw [upd_ne (ne_of_none z hn)]; exact z) fun c xs z => by rw [upd_ne (ne_of_none z hn)]; exact z
end
noncomputable def goneEnds (D : Ends) (i : Nat) : Ends := { nx := fun σ H => D.nx (σ.set i none) H, rt := D.rt, bk := fun σ H => D.bk (σ.set i none) H, ct := fun σ H => D.ct (σ.set i none) H }
noncomputable def tryE (K : PySem.W.Frag) (cD : Addr) (i : Nat) (th : TS) (D : Ends) (σ : St) : XK := fun cls od H' => ∃ C, cls = .ref C ∧ ExcB K C ∧ PySem.W.exmOne K (.ref C) (.ref cD) = some true ∧
 ∀ e, H' e = none → th (goneEnds D i) (σ.set i (some (.ref e))) (upd H' e (excD e C od))
noncomputable def tTry (K : PySem.W.Frag) (cD : Addr) (i : Nat) (tb : XK → St → TS) (th : TS) : TS := fun D σ H => tb (tryE K cD i th D σ) σ D σ H
end L2
namespace L2
open PySem PySem.Spec PyProof.Rows
theorem FnB.imp {P : Program} {w : World} {K : PySem.W.Frag} {mg : Str → Option Value} {base : Heap} {CX : CXT} {k : Nat} {x : Str} {ps : List Str} {sp sp' : Sp} (F : FnB P w K mg base CX k x ps sp) (h : ∀ vs H Q E, sp' vs H Q E → sp vs H Q E) : FnB P w K mg base CX k x ps sp' := by
 obtain ⟨f, fd, h1, h2, h3, h4⟩ := F.ex
 exact ⟨f, fd, h1.imp h, h2, h3, h4⟩
section
variable {P : Program} {w : World} {K : PySem.W.Frag} {mg : Str → Option Value} {base : Heap} {x qual : Str} {st : Stmt} {f : Addr} {fd : FuncData} {N ps : List Str} {k : Nat} {sp : Sp}
theorem okE (F : Fun K x qual st f fd) (S : FnScope N ps (defScope st)) (len : ∀ vs H Q E, sp vs H Q E → vs.length = ps.length)
  (hb : ∀ (cdv : Value) (A : Around) (outer : List Env) (s : Shared) (H : Hp) (vs : List V) (Q : VK) (E : XK), Room k (A.deeper (envOfC qual (defScope st) s.heap.objs.size f cdv)) → sp vs H Q E →
   ∃ t, PSs (cxOf (CXE P w) P w K mg base N qual (defScope st) f cdv A outer s H E) (defBody st) t ∧ t { nx := fun _ H' => Q .non H', rt := Q } (start N vs) H) : FnOk P w K mg base (CXE P w) (k + 1) f fd ps sp := by
 have e := F.ex
 obtain ⟨oc, od, kV, doc, pm, an, cdv, ct, osl, e, lk, hcd⟩ := e
 subst e
 exact fn_of lk hcd S len (hb cdv)
theorem okN (F : Fun K x qual st f fd) (S : FnScope N ps (defScope st)) (len : ∀ vs H Q E, sp vs H Q E → vs.length = ps.length)
  (hb : ∀ (cdv : Value) (A : Around) (outer : List Env) (s : Shared) (H : Hp) (vs : List V) (Q : VK) (E : XK), Room k (A.deeper (envOfC qual (defScope st) s.heap.objs.size f cdv)) → sp vs H Q E →
   ∃ t, PSs (cxOf (CXE P w) P w K mg base N qual (defScope st) f cdv A outer s H E).nox (defBody st) t ∧ t { nx := fun _ H' => Q .non H', rt := Q } (start N vs) H) : FnOk P w K mg base (CXE P w) (k + 1) f fd ps sp :=
 okE F S len fun cdv A outer s H vs Q E hr h => by
  obtain ⟨t, h1, h2⟩ := hb cdv A outer s H vs Q E hr h
  exact ⟨t, h1.nox, h2⟩
end
end L2
set_option Elab.async false
set_option linter.all false
set_option maxRecDepth 100000
namespace L2
open PySem PySem.Spec PyProof.Rows
theorem vals_snoc : ∀ {xs : List V} {us : List Value} {v : V} {u : Value}, Vals xs us → RelV v u → Vals (xs ++ [v]) (us ++ [u])
 | _, _, _, _, .nil, r => .cons r .nil
 | _, _, _, _, .cons h t, r => .cons h (vals_snoc t r)
theorem vals_rev : ∀ {xs : List V} {us : List Value}, Vals xs us → Vals xs.reverse us.reverse
 | _, _, .nil => .nil
 | _, _, .cons h t => by
  rw [List.reverse_cons, List.reverse_cons]
  exact vals_snoc (vals_rev t) h
noncomputable def tRev (te : TE) (ts : TO) : TE := fun σ H Q => te σ H fun x H1 => ts σ H1 fun k H2 => k = some (-1) ∧ match x with
 | .ref p => optK (lstOf (H2 p)) fun ys => ∀ t, H2 t = none → Q (.ref t) (upd H2 t (.lst ys.reverse))
 | _ => False
section
variable {X : Cx} {e : Expr} {te : TE} {st : Expr} {ts : TO} {pos p2 : Pos}
theorem pe_rev (he : PE X e te) (hst : PO X (some st) ts) : PE X (.Subscript e (.Slice none none (some st) p2) pos) (tRev te ts) := by
 intro pins s σ H Q I h
 refine Subscript_ (thn (he pins s σ H _ I h) fun v s1 z => ?_)
 obtain ⟨x, H1, I1, r1, q1⟩ := z
 refine wpAny_Slice ?_
 rw [evalPart_none]
 refine wpAny_pure (wpAny_pure ?_)
 refine thn (hst pins s1 σ H1 _ I1 q1) fun vk s2 z => ?_
 obtain ⟨k, H2, I2, pk, rfl, q2⟩ := z
 split at q2
 ·rename_i p
  cases r1
  obtain ⟨ys, ey, q⟩ := optK_elim q2
  have I3 : Inv X pins σ H2 { s2 with heap := s2.heap.push { cls := .type "slice", data := .fields #[.none, .none, vk] } } := I2.kept (t' := s2.toks) fun b ob q => Heap.get?_push_of_some _ q
  obtain ⟨its, r, ht, hz⟩ := I3.list (SqL.of (lstOf_eq ey))
  have hlen := r.length
  show wpAny (model X.prog X.w) X.A (subscriptTail e (.Slice none none (some st) p2) (.ref p) (.ref s2.heap.objs.size)) (EP X pins σ Q) X.xe { s2 with heap := s2.heap.push { cls := .type "slice", data := .fields #[.none, .none, vk] } }
  refine tail_any (ops := [.ref p, .ref s2.heap.objs.size]) ht.isList.typeIs slot_list_getitem.lookup ?_ (by with_unfolding_all rfl)
  refine wpAny_getItem_list_slice ht.isList (Heap.IsSliceOf.new ..) .none .none pk (by simp) ?_ (by rw [List.size_toArray] <;> omega)
  rw [PySem.W.krv_pick]
  refine ⟨.ref _, _, I3.laid (t' := s2.toks) (o := .lst ys.reverse) (fun b ob q => Heap.get?_push_of_some _ q) (Nat.le_refl _) ?_, rfl, q _ (I3.hok.fresh (Nat.le_refl _))⟩
  refine ⟨by rw [List.length_reverse]; exact hz, its.reverse, 0, vals_rev r, ?_⟩
  exact Heap.get?_push_size _ rfl
 ·exact q2.elim
end
end L2
set_option Elab.async false
set_option linter.all false
set_option maxRecDepth 100000
namespace L2
open PySem PySem.Spec PyProof.Rows
section
variable {X : Cx}
theorem zip_inv {X : Cx} {pins : List (Addr × Obj)} {σ : St} {H : Hp} {s : Shared} {h' : Heap} {tk : Nat} {wr : List Addr} {T : Addr} {x y : V} {u v : Value} (I : Inv X pins σ H s) (hf : ∀ b ∈ wr, FpOk X pins H b) (hT : s.heap.objs.size ≤ T)
  (ht : h'.IsTuple T #[u, v]) (rx : RelV x u) (ry : RelV y v) (k : ∀ b o, b ∉ wr → s.heap.get? b = some o → h'.get? b = some o) : Inv X pins σ (upd H T (.tup [x, y])) { s with heap := h', toks := tk } := by
 have hn : H T = none := I.hok.fresh hT
 have tr : ∀ b w, H b = some w → b ∉ wr := fun b w e z => by rw [(hf b z).1] at e; cases e
 refine I.step (g' := s.gens) (d' := s.drawn) (ch := wr) (fun b hb => ?_) (fun b o _ _ hc e _ => k b o hc e) (fun b o _ _ hc e _ => ⟨o.slots, k b o hc e⟩) (fun b o hc e n => ?_) (fun b o hc e => ⟨o, k b o hc e⟩) (fun b xs e => ?_) (fun b o w e => ?_) (fun b ps e => ?_) (fun m hm => ?_) (fun b w e => ?_) I.bare
 ·obtain ⟨f0, f1, f2, f3, f4, f5⟩ := hf b hb
  exact ⟨f3, f1, f4, f5⟩
 ·rw [upd_ne (Nat.ne_of_lt (Nat.lt_of_lt_of_le (Heap.lt_size e) hT))]
  exact n
 ·rw [upd_ne (ne_of_none e hn)]
  exact e
 ·rw [upd_ne (ne_of_none e hn)]
  exact e
 ·exact ⟨#[], by rw [upd_ne (ne_of_none e hn), e]; simp⟩
 ·obtain ⟨o, es, ep, ho, r⟩ := hm
  exact ⟨o, es, ep, k _ o (fun z => (hf _ z).2.1 rfl) ho, r⟩
 ·by_cases hb : b = T
  ·subst hb
   rw [upd_same] at e
   cases e
   exact ⟨show 2 ≤ sizeLine by decide, [u, v], .cons rx (.cons ry .nil), ht⟩
  ·rw [upd_ne hb] at e
   refine (I.hok b w e).stay (fun c z hc q => k c z ?_ q) (fun c q => by rw [upd_ne (ne_of_none q hn)]; exact q) fun c xs q => by rw [upd_ne (ne_of_none q hn)]; exact q
   rcases hc with rfl | hc
   ·exact tr _ _ e
   ·exact tr _ _ hc
end
end L2
set_option Elab.async false
set_option linter.all false
set_option maxRecDepth 100000
namespace L2
open PySem PySem.Spec PyProof.Rows
noncomputable def tRaise0 (C : Addr) (E : XK) : TS := fun _ _ H => E (.ref C) none H
end L2
set_option Elab.async false
set_option linter.all false
set_option maxRecDepth 100000
namespace L2
open PySem PySem.Spec PyProof.Rows
section
variable {X : Cx} {pos : Pos}
noncomputable def tPar3 (i j k : Nat) (ta : TA) : TS := fun D σ H => ta σ H fun vs H1 => ∃ v w u, vs = [v, w, u] ∧ D.nx (((σ.set i (some v)).set j (some w)).set k (some u)) H1
end
end L2
set_option Elab.async false
set_option linter.all false
set_option maxRecDepth 100000
namespace L2
open PySem PySem.Spec PyProof.Rows
noncomputable def dkOf (o : Option HO) : Option (List (Key × V)) := match o with
 | some (.dK kvs) => some kvs
 | _ => none
theorem dkOf_k (kvs : List (Key × V)) : dkOf (some (.dK kvs)) = some kvs := rfl
noncomputable def tDg (k : Str) (td : TE) : TE := fun σ H Q => td σ H fun x H1 => match x with
 | .ref a => optK (dkOf (H1 a)) fun kvs => optK (valV kvs (Sum.inr k)) fun v => Q v H1
 | _ => False
noncomputable def tDp (k : Str) (td tv : TE) : TS := fun D σ H => tv σ H fun v H1 => td σ H1 fun x H2 => match x with
 | .ref a => optK (dkOf (H2 a)) fun kvs => kvs.length < 1000000 ∧ D.nx σ (upd H2 a (.dK (putK kvs (Sum.inr k) v)))
 | _ => False
theorem FnB.no {P : Program} {w : World} {K : PySem.W.Frag} {mg : Str → Option Value} {base : Heap} {CX : CXT} {x : Str} {ps : List Str} {f : Addr} {fd : FuncData} (m : mg x = some (.ref f)) (kp : PySem.W.keepIn K (.ref f) = true) (b : Binds K fd ps []) : FnB P w K mg base CX 0 x ps (fun _ _ _ _ => False) :=
 ⟨f, fd, ⟨fun _ _ _ _ h => h.elim, fun _ _ _ _ _ _ _ _ _ _ _ _ _ h => h.elim⟩, m, kp, b⟩
end L2
set_option Elab.async false
set_option linter.all false
set_option maxRecDepth 100000
namespace L2
open PySem PySem.Spec PyProof.Rows
theorem next_raw {prog : Program} {w : World} {A : Around} {E : Value → Shared → Prop} {s : Shared} {it d : Addr} {i ep : Nat} {o : Obj} {es : Array DictEntry} {e : DictEntry} {Q : Option Value → Shared → Prop}
  (hI : s.heap.IsKeyIter it d i es.size ep) (ho : s.heap.get? d = some o) (hd : o.data = .dict es ep) (he : es[i]? = some e)
  (h : ∀ h' : Heap, h'.IsKeyIter it d (i + 1) es.size ep → Heap.SameBut it s.heap h' → Q (some e.key) { s with heap := h' }) :
  wpAny (model prog w) A (pyNext (.ref it)) Q E s := by
 unfold pyNext
 refine wpAny_bind (wpAny_attempt (wpAny_callSpecial?_slot hI.typeIs F.slot_dict_keyiterator_next (wpAny_call_entry F.slot_dict_keyiterator_next hI.typeIs F.entry_dict_keyiterator_next ?_ (F.args_dict_keyiterator_next_1 _))))
 have hI' := hI
 obtain ⟨oi, hoi, hcls, hdata⟩ := hI
 show wpAny (model prog w) A.in1 (Builtin.Dict_items.slot0 "__next__" { pos := [.ref it] } >>= fun it' => _) _ _ _
 refine wpAny_bind ?_
 show wpAny (model prog w) A.in1 (pure (Value.ref it)) _ _ _
 refine wpAny_pure ?_
 refine wpAny_bind ?_
 refine wpAny_bind ?_
 refine wpAny_bind ?_
 refine wpAny_typeNameOfWhole_keyiter hI'.typeIs (wpAny_pure ?_)
 have hown : Builtin.Dict_items.ownsTuple "dict_keyiterator" = false := by decide
 rw [hown, if_neg (by decide)]
 refine wpAny_bind (wpAny_fieldsOf hoi hdata ?_)
 show wpAny (model prog w) A.in1 (if (Value.ref d == Value.none) = true then _ else _) _ _ _
 rw [if_neg (show ¬ (Value.ref d == Value.none) = true from fun z => nomatch (show false = true from z))]
 refine wpAny_bind ?_
 show wpAny (model prog w) A.in1 (pure d) _ _ _
 refine wpAny_pure (wpAny_bind (wpAny_dictEntries ho hd ?_))
 dsimp only
 rw [if_neg (by simp)]
 refine wpAny_bind ?_
 show wpAny (model prog w) A.in1 (pure d) _ _ _
 refine wpAny_pure (wpAny_bind (wpAny_dictEpoch ho hd ?_))
 rw [if_neg (by simp)]
 refine wpAny_pure ?_
 dsimp only
 rw [if_neg (by omega), Int.toNat_natCast, he]
 dsimp only
 refine wpAny_bind ?_
 refine wpAny_bind ?_
 refine wpAny_typeNameOfWhole_keyiter hI'.typeIs (wpAny_pure ?_)
 rw [hown, if_neg (by decide)]
 refine wpAny_bind (wpAny_isOneOf_keyiter hI'.typeIs ?_)
 refine wpAny_bind (wpAny_setField hoi hdata (show 0 + 1 < 4 by decide) ?_)
 refine wpAny_bind (wpAny_holding ?_)
 have hS := Heap.SameBut.update s.heap it (Obj.mapFields fun x => x.setIfInBounds (0 + 1) (rawInt ((i : Int) + 1)))
 have hK : (s.heap.update it (Obj.mapFields fun x => x.setIfInBounds (0 + 1) (rawInt ((i : Int) + 1)))).IsKeyIter it d (i + 1) es.size ep := by
  refine ⟨_, Heap.get?_update_self _ hoi ?_, ?_, ?_⟩
  ·obtain ⟨c, dd, dt, sl⟩ := oi
   cases hdata
   cases hcls
   rfl
  ·obtain ⟨c, dd, dt, sl⟩ := oi
   cases hdata
   exact hcls
  ·obtain ⟨c, dd, dt, sl⟩ := oi
   cases hdata
   rfl
 show wpAny (model prog w) A.in1 (Builtin.Dict_items.isOneOf (Value.ref it) ["dict_keyiterator", "dict_reversekeyiterator"] >>= fun b => _) _ _ { s with heap := s.heap.update it (Obj.mapFields fun x => x.setIfInBounds (0 + 1) (rawInt ((i : Int) + 1))) }
 refine wpAny_bind (wpAny_isOneOf_keyiter hK.typeIs ?_)
 show wpAny (model prog w) A.in1 (pure e.key) _ _ _
 exact wpAny_pure (wpAny_pure ⟨e.key, rfl, wpAny_pure (h _ hK hS)⟩)
theorem end_raw {prog : Program} {w : World} {A : Around} {E : Value → Shared → Prop} {s : Shared} {it d : Addr} {i ep : Nat} {o : Obj} {es : Array DictEntry} {Q : Option Value → Shared → Prop}
  (hh : A.handled = none) (hI : s.heap.IsKeyIter it d i es.size ep) (ho : s.heap.get? d = some o) (hd : o.data = .dict es ep) (he : es[i]? = none)
  (h : ∀ h' : Heap, Heap.ExtBut it s.heap h' → Q none { s with heap := h' }) :
  wpAny (model prog w) A (pyNext (.ref it)) Q E s := by
 unfold pyNext
 refine wpAny_bind (wpAny_attempt (wpAny_callSpecial?_slot hI.typeIs F.slot_dict_keyiterator_next (wpAny_call_entry F.slot_dict_keyiterator_next hI.typeIs F.entry_dict_keyiterator_next ?_ (F.args_dict_keyiterator_next_1 _))))
 have hI' := hI
 obtain ⟨oi, hoi, hcls, hdata⟩ := hI
 show wpAny (model prog w) A.in1 (Builtin.Dict_items.slot0 "__next__" { pos := [.ref it] } >>= fun it' => _) _ _ _
 refine wpAny_bind ?_
 show wpAny (model prog w) A.in1 (pure (Value.ref it)) _ _ _
 refine wpAny_pure ?_
 refine wpAny_bind ?_
 refine wpAny_bind ?_
 refine wpAny_bind ?_
 refine wpAny_typeNameOfWhole_keyiter hI'.typeIs (wpAny_pure ?_)
 have hown : Builtin.Dict_items.ownsTuple "dict_keyiterator" = false := by decide
 rw [hown, if_neg (by decide)]
 refine wpAny_bind (wpAny_fieldsOf hoi hdata ?_)
 show wpAny (model prog w) A.in1 (if (Value.ref d == Value.none) = true then _ else _) _ _ _
 rw [if_neg (show ¬ (Value.ref d == Value.none) = true from fun z => nomatch (show false = true from z))]
 refine wpAny_bind ?_
 show wpAny (model prog w) A.in1 (pure d) _ _ _
 refine wpAny_pure (wpAny_bind (wpAny_dictEntries ho hd ?_))
 dsimp only
 rw [if_neg (by simp)]
 refine wpAny_bind ?_
 show wpAny (model prog w) A.in1 (pure d) _ _ _
 refine wpAny_pure (wpAny_bind (wpAny_dictEpoch ho hd ?_))
 rw [if_neg (by simp)]
 refine wpAny_pure ?_
 dsimp only
 rw [if_neg (by omega), Int.toNat_natCast, he]
 dsimp only
 refine wpAny_bind ?_
 refine wpAny_bind ?_
 refine wpAny_typeNameOfWhole_keyiter hI'.typeIs (wpAny_pure ?_)
 rw [hown, if_neg (by decide)]
 refine wpAny_bind (wpAny_setField hoi hdata (show 0 < 4 by decide) ?_)
 refine wpAny_bind ?_
 unfold newExc
 refine wpAny_bind (wpAny_newTuple ?_ (Nat.zero_le _))
 refine wpAny_bind ?_
 show wpAny (model prog w) A.in1 (do let has ← pure ((Manifest.find? "StopIteration").elim false fun t => t.mro.contains "StopIteration" || t.mro.contains "SystemExit"); pure (if has = true then ([] : List Value).headD Value.none else Value.none)) _ _ _
 refine wpAny_bind (wpAny_pure (wpAny_pure ?_))
 refine wpAny_newObj_type ?_ (show 6 ≤ sizeLine + 2 by decide)
 refine wpAny_raiseNew_none hh ?_
 refine wpAny_bind (wpAny_isInstance (T := "StopIteration") (b := true) ⟨_, Heap.get?_push_size _ rfl, rfl⟩ rfl ?_)
 rw [if_pos rfl]
 refine wpAny_pure (h _ fun b o' hb q => ?_)
 refine Heap.get?_push_of_some _ (Heap.get?_push_of_some _ ?_)
 rw [(Heap.SameBut.update s.heap it _).2 b hb]
 exact q
theorem iter_raw {prog : Program} {w : World} {A : Around} {E : Value → Shared → Prop} {s : Shared} {d : Addr} {ep : Nat} {o : Obj} {es : Array DictEntry} {Q : Value → Shared → Prop}
  (hs : (d == sysModules) = false) (ho : s.heap.get? d = some o) (hc : o.ExactDict) (hd : o.data = .dict es ep)
  (h : Q (.ref s.heap.objs.size) { s with heap := s.heap.push { cls := .type "dict_keyiterator", data := .fields #[.ref d, .int 0 0, .int es.size 0, .int ep 0] } }) :
  wpAny (model prog w) A (pyIter (.ref d)) Q E s := by
 have ht : s.TypeIs (.ref d) "dict" := ⟨o, ho, hc.1⟩
 refine wpAny_pyIter_slot ht F.slot_dict_iter (wpAny_call_entry F.slot_dict_iter ht F.entry_dict_iter ?_ (F.args_dict_iter_1 _))
 refine wpAny_bind ?_
 unfold Builtin.Dict.dictSlotNone
 refine wpAny_bind ?_
 unfold Builtin.Dict.notOrdered
 rw [if_pos (by decide)]
 refine wpAny_bind (wpAny_typeOf ht ?_)
 rw [if_neg (by decide)]
 refine wpAny_pure ?_
 show wpAny (model prog w) A.in1 (do let __do_lift ← (pure (Value.ref d, []) : Sem (Value × List Value)); pure __do_lift.fst) _ _ _
 refine wpAny_bind (wpAny_pure (wpAny_pure ?_))
 refine wpAny_bind ?_
 show wpAny (model prog w) A.in1 (pure d) _ _ _
 refine wpAny_pure (wpAny_bind ?_)
 unfold Builtin.Dict.showsAll
 rw [if_neg (by rw [hs]; decide)]
 refine wpAny_pure (wpAny_bind (wpAny_dictEntries ho hd (wpAny_bind (wpAny_dictEpoch ho hd (wpAny_bind ?_)))))
 refine wpAny_newObj_type (T := "dict_keyiterator") ?_ (show 4 ≤ sizeLine + 2 by decide)
 exact wpAny_pure ⟨_, rfl, "dict_keyiterator", _, ⟨_, Heap.get?_push_size _ rfl, rfl⟩, F.slot_dict_keyiterator_next.lookup, h⟩
theorem walks_raw {prog : Program} {w : World} {A : Around} (hh : A.handled = none) (I d : Addr) (hne : d ≠ I) (o : Obj) (es : Array DictEntry) (ep : Nat) (hd : o.data = .dict es ep) :
  Walks prog w A I [I, d] [I] es.size (fun i v => ∃ e, es[i]? = some e ∧ v = e.key) fun i h => h.IsKeyIter I d i es.size ep ∧ h.get? d = some o where
 sub := fun b hb => by simp only [List.mem_cons, List.not_mem_nil, or_false] at hb ⊢; exact .inl hb
 frame := fun i h h' ⟨h1, h2⟩ k => ⟨h1.at fun o q => k I (by simp) o q, k d (by simp) o h2⟩
 item := fun i s Q E hi ⟨h1, h2⟩ k => by
  obtain ⟨e, he⟩ : ∃ e, es[i]? = some e := ⟨es[i], Array.getElem?_eq_getElem hi⟩
  refine next_raw h1 h2 hd he fun h' k1 k2 => k e.key h' s.toks ⟨e, he, rfl⟩ ⟨k1, ?_⟩ fun b ob hb q => ?_
  ·rw [k2.2 d hne]; exact h2
  ·rw [k2.2 b (by simpa using hb)]; exact q
 done := fun s Q E ⟨h1, h2⟩ k => end_raw hh h1 h2 hd (by simp) fun h' k2 => k h' s.toks fun b ob hb q => k2 b ob (by simpa using hb) q
 self := fun i s Q E ⟨h1, h2⟩ k => wpAny_pyIter_keyiter h1 k
theorem src_raw {prog : Program} {w : World} {d : Addr} {o : Obj} {es : Array DictEntry} {ep : Nat} (hs : (d == sysModules) = false) (hc : o.ExactDict) (hd : o.data = .dict es ep) :
  PySem.W.KdlSrc prog w "dict" d d es.size (fun i v => ∃ e, es[i]? = some e ∧ v = e.key) fun h => h.get? d = some o where
 type := fun s h => ⟨o, h, hc.1⟩
 there := fun h k => ⟨Heap.lt_size k, Heap.lt_size k⟩
 keep := fun h h' k q => q d (.inl rfl) o k
 notList := by decide
 notTuple := by decide
 hint := fun A E s Q k q => PySem.W.kdl_hint_dict ⟨o, k, hc.1⟩ q
 iter := fun A s hh k => ⟨{ cls := .type "dict_keyiterator", data := .fields #[.ref d, .int 0 0, .int es.size 0, .int ep 0] }, _, fun E Q q => iter_raw hs k hc hd q, walks_raw hh s.heap.objs.size d (Nat.ne_of_lt (Heap.lt_size k)) o es ep hd, ⟨_, Heap.get?_push_size _ rfl, rfl, rfl⟩, Heap.get?_push_of_some _ k⟩
section
variable {X : Cx} {pos pos' : Pos}
theorem kt_at {H : Hp} : ∀ {kvs : List (List Key × V)} {xs : List (List Key × Addr × Value)}, KT H kvs xs → xs.length = kvs.length ∧ ∀ (i : Nat) (a : List Key × V) (b : List Key × Addr × Value), kvs[i]? = some a → xs[i]? = some b → H b.2.1 = some (.tup (a.1.map kV)) := by
 intro kvs xs r
 induction r with
 | nil => exact ⟨rfl, fun i a b h => by simp at h⟩
 | @cons p q ps qs h t ih =>
  refine ⟨by simp [ih.1], fun i a b h1 h2 => ?_⟩
  cases i with
  | zero => cases h1; cases h2; exact h.2.1
  | succ i => exact ih.2 i a b h1 h2
theorem refs_vals : ∀ ks : List (List Key × Addr × Value), Vals ((ks.map fun x => x.2.1).map V.ref) (ks.map fun x => Value.ref x.2.1)
 | [] => .nil
 | _ :: ks => .cons rfl (refs_vals ks)
theorem call_listD (hcalm : X.calm = true) : CallR X (.type "list") (fun vs H Q => ∃ d kvs, vs = [.ref d] ∧ H d = some (.dT kvs) ∧ ∀ (l : Addr) (as : List Addr), H l = none → as.length = kvs.length → (∀ (i : Nat) (a : Addr) (k : List Key × V), as[i]? = some a → kvs[i]? = some k → H a = some (.tup (k.1.map kV))) → Q (.ref l) (upd H l (.lst (as.map V.ref)))) := by
 intro pins s σ H xs us Q I r h
 obtain ⟨d, kvs, rfl, hd, q⟩ := h
 obtain ⟨u, rfl, rx⟩ := vals1 r
 cases rx
 obtain ⟨hz, hs, ks, kt, o, es, ep, ho, hc, hdat, hes, _, _⟩ := dt_of I.hok hd
 obtain ⟨hl, hk⟩ := kt_at kt
 have hsz : es.size = kvs.length := by
  have := congrArg List.length hes
  rw [List.length_map, hl, Array.length_toList] at this
  exact this
 refine PySem.W.kdl_call (src_raw hs hc hdat) (I.ok.hd hcalm) ho (by rw [hsz]; exact hz) fun h' tk acc c kp e hi => ?_
 have hacc : acc.toList = (ks.map fun x => Value.ref x.2.1) := by
  apply List.ext_getElem?
  intro j
  rw [Array.getElem?_toList, List.getElem?_map]
  by_cases hj : j < acc.size
  ·have e1 := Array.getElem?_eq_getElem hj
   obtain ⟨en, he, hv⟩ := hi.2 j _ e1
   rw [e1, hv]
   rw [← Array.getElem?_toList, hes, List.getElem?_map] at he
   cases hx : ks[j]? with
   | none => rw [hx] at he; cases he
   | some x =>
    rw [hx] at he
    cases he
    rfl
  ·rw [Array.getElem?_eq_none (by omega), List.getElem?_eq_none (by rw [hl, ← hsz, ← hi.1]; omega)]
   rfl
 have hv : Vals ((ks.map fun x => x.2.1).map V.ref) acc.toList := by
  rw [hacc]
  exact refs_vals _
 refine ⟨.ref s.heap.objs.size, _, I.laid (a := s.heap.objs.size) (o := .lst ((ks.map fun x => x.2.1).map V.ref)) (t' := tk) kp (Nat.le_refl _) ⟨?_, acc.toList, c, hv, ?_⟩, rfl, q _ _ (I.hok.fresh (Nat.le_refl _)) ?_ ?_⟩
 ·rw [List.length_map, List.length_map, hl]; exact hz
 ·rw [e]
 ·rw [List.length_map, hl]
 ·intro i a k h1 h2
  rw [List.getElem?_map] at h1
  cases hx : ks[i]? with
  | none => rw [hx] at h1; cases h1
  | some x =>
   rw [hx] at h1
   cases h1
   exact hk i k x h2 hx
theorem best_lt (val : Nat → Int) : ∀ k, argBest (fun i j => decide (val i < val j)) k ≤ k ∧ ∀ j, j ≤ k → val (argBest (fun i j => decide (val i < val j)) k) ≤ val j := by
 intro k
 induction k with
 | zero =>
  rw [argBest.eq_1]
  exact ⟨Nat.le_refl _, fun j hj => by obtain rfl : j = 0 := (by omega); exact Int.le_refl _⟩
 | succ k ih =>
  rw [show k + 1 = k.succ from rfl, argBest.eq_2]
  by_cases h : val (k + 1) < val (argBest (fun i j => decide (val i < val j)) k)
  ·rw [if_pos (decide_eq_true h)]
   refine ⟨Nat.le_refl _, fun j hj => ?_⟩
   by_cases e : j = k + 1
   ·subst e; exact Int.le_refl _
   ·have := ih.2 j (by omega)
    omega
  ·rw [if_neg (by rw [decide_eq_true_eq]; exact h)]
   refine ⟨by have := ih.1; omega, fun j hj => ?_⟩
   by_cases e : j = k + 1
   ·subst e; omega
   ·exact ih.2 j (by omega)
theorem best_gt (val : Nat → Int) : ∀ k, argBest (fun i j => decide (val i > val j)) k ≤ k ∧ ∀ j, j ≤ k → val j ≤ val (argBest (fun i j => decide (val i > val j)) k) := by
 intro k
 induction k with
 | zero =>
  rw [argBest.eq_1]
  exact ⟨Nat.le_refl _, fun j hj => by obtain rfl : j = 0 := (by omega); exact Int.le_refl _⟩
 | succ k ih =>
  rw [show k + 1 = k.succ from rfl, argBest.eq_2]
  by_cases h : val (k + 1) > val (argBest (fun i j => decide (val i > val j)) k)
  ·rw [if_pos (decide_eq_true h)]
   refine ⟨Nat.le_refl _, fun j hj => ?_⟩
   by_cases e : j = k + 1
   ·subst e; exact Int.le_refl _
   ·have := ih.2 j (by omega)
    omega
  ·rw [if_neg (by rw [decide_eq_true_eq]; exact h)]
   refine ⟨by have := ih.1; omega, fun j hj => ?_⟩
   by_cases e : j = k + 1
   ·subst e; omega
   ·exact ih.2 j (by omega)
theorem val_at {ns : List Int} : ∀ {its : List Value}, Vals (ns.map V.int) its → its.length = ns.length ∧ ∀ (i : Nat) (v : Value), its[i]? = some v → ∃ t, v = Value.int (ns.getD i 0) t := by
 induction ns with
 | nil => intro its r; cases r; exact ⟨rfl, fun i v h => by simp at h⟩
 | cons n ns ih =>
  intro its r
  cases r with
  | cons p q =>
   obtain ⟨h1, h2⟩ := ih q
   refine ⟨by simp [h1], fun i v h => ?_⟩
   cases i with
   | zero => cases h; exact p
   | succ i => exact h2 i v h
theorem mem_of_getD {ns : List Int} {i : Nat} (h : i < ns.length) : ns.getD i 0 ∈ ns := by
 rw [List.getD_eq_getElem?_getD, List.getElem?_eq_getElem h]
 exact List.getElem_mem h
noncomputable def keyF : List V → Option (List Key)
 | [] => some []
 | .int i :: r => (keyF r).map (Sum.inl i :: ·)
 | _ => none
theorem keyF_map : ∀ {xs : List V} {k : List Key}, keyF xs = some k → xs = k.map kV
 | [], k, h => by cases h; rfl
 | .int i :: r, k, h => by
  simp only [keyF] at h
  cases e : keyF r with
  | none => rw [e] at h; cases h
  | some k' =>
   rw [e] at h
   cases h
   rw [keyF_map e]
   rfl
noncomputable def tDpT (td ty tv : TE) : TS := fun D σ H => tv σ H fun v H1 => td σ H1 fun x H2 => ty σ H2 fun y H3 => ∃ a b kvs xs k, x = .ref a ∧ y = .ref b ∧ H3 a = some (.dT kvs) ∧ H3 b = some (.tup xs) ∧ keyF xs = some k ∧ kvs.length < 1000000 ∧ D.nx σ (upd H3 a (.dT (putK kvs k v)))
theorem ps_dpT {o i value : Expr} {td ty tv : TE} (hu : X.A.units + 1 < cLine) (ho : PE X o td) (hi : PE X i ty) (hv : PE X value tv) (hs : swapsWith value (some (.Subscript o i pos')) pos.line X.env = pure false) :
  PS X (.Assign [.Subscript o i pos'] value pos) (tDpT td ty tv) := by
 intro pins s σ H D I h
 refine wpAny_Assign_Subscript (thn (hv pins s σ H _ I h) fun r s1 ⟨v, H1, I1, rv, q1⟩ => thn (ho pins s1 σ H1 _ I1 q1) fun u s2 ⟨x, H2, I2, rx, q2⟩ => thn (hi pins s2 σ H2 _ I2 q2) fun iv s3 ⟨y, H3, I3, ry, a, b, kvs, xs, k, ex, ey, e1, e2, ek, hl, q3⟩ => ?_) hs
 subst ex
 subst ey
 obtain rfl : u = Value.ref a := rx
 rw [keyF_map ek] at e2
 exact d_setItem hu I3 (DPut.t e1 e2 (small6 hl)) ry rv fun s4 I4 => ⟨σ, _, I4, q3⟩
end
end L2
set_option Elab.async false
set_option linter.all false
set_option maxRecDepth 100000
namespace L2
open PySem PySem.Spec PyProof.Rows
noncomputable def Ite (K : PySem.W.Frag) (a : Addr) : It :=
 ⟨fun i H => ∃ xs, SqL K H a xs ∧ i < xs.length,
  fun i H v H' => ∃ t, v = .ref t ∧ H t = none ∧ ∀ xs x, SqL K H a xs → xs[i]? = some x → H' = upd H t (.tup [.int (i : Int), x]),
  fun i H => ∃ xs, SqL K H a xs ∧ i = xs.length⟩
noncomputable def iEnum (K : PySem.W.Frag) (ta : TA) : TI := fun σ H R => ta σ H fun vs H1 => ∃ a, vs = [.ref a] ∧ (∃ xs, SqL K H1 a xs) ∧ R (Ite K a) H1
section
variable {X : Cx}
theorem turn_enum {P : Program} {w : World} {K : PySem.W.Frag} {elts : List Expr} {kk : Nat} {pos : Pos} (n l : Addr) (h1 : l < n) : Turn P w K (.Tuple elts kk pos) (Ite K l) [n + 1, n] (n + 1)
  (fun i h => (∃ old, IsEnum h (n + 1) n (↑i) old) ∧ h.IsListIter n l i) where
 mem := by simp
 obj := fun i h st b hb => by
  obtain ⟨⟨old, z1⟩, ⟨o1, e1, c1, d1⟩⟩ := st
  simp only [List.mem_cons, List.not_mem_nil, or_false] at hb
  rcases hb with rfl | rfl
  ·exact ⟨_, z1, fun v q => by cases q⟩
  ·exact ⟨_, e1, fun v q => by rw [d1] at q; cases q⟩
 keep := fun i h h' st k => by
  obtain ⟨⟨old, z1⟩, z4⟩ := st
  exact ⟨⟨old, k _ (by simp) _ z1⟩, z4.at fun o e => k _ (by simp) o e⟩
 item := by
  intro X hP hw hK hc i pins s σ H E I hf st hg
  subst hP hw hK
  obtain ⟨xs, q1, hi⟩ := hg
  obtain ⟨us, r1, p1, _⟩ := I.list q1
  obtain ⟨z1, z4⟩ := st
  have W := WalksT.enumerate (prog := X.prog) (w := X.w) (I.ok.hd hc) (n + 1) n l (Nat.succ_ne_self n) (Nat.ne_of_lt (Nat.lt_succ_of_lt h1)) (Nat.ne_of_lt h1) us.toArray
  have len1 := r1.length
  refine W.item i s _ _ (by simp only [List.size_toArray]; omega) ⟨z1, z4, p1.isList⟩ fun T vals h' tk hPt hT hTup hMid hk => ?_
  obtain ⟨t, u, hu, rfl⟩ := hPt
  refine ⟨.ref T, rfl, W.go elts kk pos i T _ _ _ hMid fun h'' st' hk' => ?_⟩
  obtain ⟨x, hx⟩ : ∃ x, xs[i]? = some x := ⟨_, List.getElem?_eq_getElem hi⟩
  obtain ⟨u', eu, rx⟩ := r1.get hx
  have e1 : u' = u := by
   have z : us[i]? = some u := by simpa using hu
   rw [eu] at z
   exact Option.some.inj z
  subst e1
  have ap := W.apart i T h' hMid
  have ht2 : h''.IsTuple T #[.int (i : Int) t, u'] := hTup.at fun o e => hk' T o ap e
  have J := zip_inv (x := .int (i : Int)) (tk := tk) (h' := h'') I (wr := [n + 1, n]) hf hT ht2 ⟨t, rfl⟩ rx (fun b o hb e => hk' b o hb (hk b o hb e))
  refine ⟨.ref T, _, J, rfl, ⟨T, rfl, I.hok.fresh hT, fun xs' x' a1 a3 => ?_⟩, ⟨st'.1, st'.2.1⟩, fun b hb => ?_⟩
  ·rw [I.list_inj a1 q1, hx] at a3
   cases a3
   rfl
  ·have hb0 := (hf b hb).1
   have hlt : b < s.heap.objs.size := by
    obtain ⟨old, z1⟩ := z1
    obtain ⟨o1, e1, _⟩ := z4
    simp only [List.mem_cons, List.not_mem_nil, or_false] at hb
    rcases hb with rfl | rfl
    ·exact Heap.lt_size z1
    ·exact Heap.lt_size e1
   rw [upd_ne (Nat.ne_of_lt (Nat.lt_of_lt_of_le hlt hT))]
   exact hb0
 done := by
  intro X hP hw hK hc i pins s σ H E I hf st hg
  subst hP hw hK
  obtain ⟨xs, q1, hi⟩ := hg
  obtain ⟨us, r1, p1, _⟩ := I.list q1
  obtain ⟨z1, z4⟩ := st
  have W := WalksT.enumerate (prog := X.prog) (w := X.w) (I.ok.hd hc) (n + 1) n l (Nat.succ_ne_self n) (Nat.ne_of_lt (Nat.lt_succ_of_lt h1)) (Nat.ne_of_lt h1) us.toArray
  have e : i = us.toArray.size := by
   simp only [List.size_toArray]
   rw [← r1.length]
   exact hi
  subst e
  refine W.done s _ _ ⟨z1, z4, p1.isList⟩ fun h' tk hk => ⟨rfl, ?_⟩
  have tr : ∀ b w, H b = some w → b ∉ [n + 1, n] := fun b w e z => by
   rw [(hf b z).1] at e
   cases e
  refine I.step (g' := s.gens) (d' := s.drawn) (ch := [n + 1, n]) (fun b hb => ?_) (fun b o _ _ hc e _ => hk b o hc e) (fun b o _ _ hc e _ => ⟨o.slots, hk b o hc e⟩) (fun b o hc e n => n) (fun b o hc e => ⟨o, hk b o hc e⟩) (fun b xs e => e) (fun b o w e => e) (fun b ps e => ⟨#[], by rw [e]; simp⟩) (fun m hm => ?_) (fun b w e => ?_) I.bare
  ·obtain ⟨f0, f1, f2, f3, f4, f5⟩ := hf b hb
   exact ⟨f3, f1, f4, f5⟩
  ·obtain ⟨o, es, ep, ho, r⟩ := hm
   exact ⟨o, es, ep, hk _ o (fun z => (hf _ z).2.1 rfl) ho, r⟩
  ·refine (I.hok b w e).stay (fun c z hc q => hk c z ?_ q) (fun _ q => q) fun _ _ q => q
   rcases hc with rfl | hc
   ·exact tr _ _ e
   ·exact tr _ _ hc
 self := fun A i s Q E st q => by
  obtain ⟨⟨old, z1⟩, _⟩ := st
  exact wpAny_pyIter_enum z1 q
theorem pi_enum {a : Expr} {ta : TA} {p pos tpos : Pos} {elts : List Expr} {kk : Nat} {K : PySem.W.Frag} (hK : X.K = K) (hg : Gl X "enumerate") (hm : X.mg "enumerate" = none) (ha : PA X [a] ta) (hs : starEach [a] X.env = [(false, eval a X.env)] := by rfl) :
  PI X (.Tuple elts kk tpos) (.Call (.Name "enumerate" p) [a] [] pos) (iEnum K ta) := by
 subst hK
 intro pins s σ H R I h
 refine Call_ (ld_blt I hg hm boot_enumerate (PyProof.Rows.callWith_type1 (thn (ha pos pins s σ H _ I h) fun us s1 z => ?_) hs rfl))
 obtain ⟨vs, H1, I1, r1, l, rfl, ⟨xs, q1⟩, q⟩ := z
 obtain ⟨u, rfl, ru⟩ := r1.one
 obtain rfl : u = Value.ref l := ru
 obtain ⟨is1, s1', p1, _⟩ := I1.list q1
 have b1 : l < s1.heap.objs.size := by
  obtain ⟨o, e, _⟩ := p1.isList
  exact Heap.lt_size e
 refine call_enumerate_list p1.isList fun h' hz hi1 hsz hk => ?_
 refine wpAny_pyIter_enum hz ?_
 refine ⟨_, _, _, _, H1, rfl, I1.kept (t' := s1.toks) hk, turn_enum s1.heap.objs.size l b1, ⟨⟨_, hz⟩, hi1⟩, fun b hb => ?_, q⟩
 simp only [List.mem_cons, List.not_mem_nil, or_false] at hb
 have hle : s1.heap.objs.size ≤ b := by
  rcases hb with rfl | rfl <;> omega
 exact I1.fpOk hle (I1.hok.fresh hle)
end
section
variable {K : PySem.W.Frag} {a : Addr} {xs : List V} {ta : TA} {g : TG} {tb : TS} {Dn : Ends} {σ : St} {H : Hp}
theorem tfor_enum (Ra : Addr → Hp → Prop) (ha : ∀ R : List V → Hp → Prop, (∀ a H1, Ra a H1 → R [.ref a] H1) → ta σ H R)
  (hb : ∀ a H1, Ra a H1 → ∃ xs, ∃ Pv : Nat → St → Hp → Prop, Pv 0 σ H1 ∧ (∀ i σ H, i ≤ xs.length → Pv i σ H → SqL K H a xs) ∧
   (∀ i x t σ H, xs[i]? = some x → Pv i σ H → H t = none → g (.ref t) σ (upd H t (.tup [.int (i : Int), x])) fun σ2 H2 => tb { Dn with nx := Pv (i + 1), ct := Pv (i + 1), bk := Dn.nx } σ2 H2) ∧ ∀ σ H, Pv xs.length σ H → Dn.nx σ H) :
  tFor (iEnum K ta) g tb Dn σ H := by
 refine ha _ fun a H1 q => ?_
 obtain ⟨xs, Pv, h0, hq, hs, hd⟩ := hb a H1 q
 have s1 := hq 0 σ H1 (Nat.zero_le _) h0
 refine ⟨a, rfl, ⟨xs, s1⟩, fun i m σ H => Pv i σ H ∧ i ≤ xs.length ∧ m = xs.length - i, ⟨_, h0, Nat.zero_le _, rfl⟩, ?_⟩
 rintro i m σ H ⟨p, hi, rfl⟩
 have s1 := hq i σ H hi p
 rcases Nat.lt_or_eq_of_le hi with hi | hi
 ·right
  refine ⟨⟨xs, s1, by omega⟩, fun σ' H' => Pv (i + 1) σ' H', fun σ' H' p' => ⟨xs.length - (i + 1), by omega, p', by omega, rfl⟩, ?_⟩
  rintro v H' ⟨t, rfl, hn, e⟩
  obtain ⟨x, hx⟩ : ∃ x, xs[i]? = some x := ⟨_, List.getElem?_eq_getElem hi⟩
  rw [e xs x s1 hx]
  exact hs i x t σ H hx p hn
 ·left
  exact ⟨⟨xs, s1, by omega⟩, hd σ H (hi ▸ p)⟩
end
noncomputable def rInD (K : PySem.W.Frag) : R2 := fun x y H Q => ∃ d ds, Rdy K H x d ∧ Rdy K H y (.list ds) ∧ SeqAt.shaped d = true ∧ SeqAt.shaped (.list ds) = true ∧ (∀ y ∈ ds, SeqAt.noMix y d = true) ∧ Q (.bl (decide (Spec.countIn d ds ≠ 0))) H
theorem op_inDK {X : Cx} {K : PySem.W.Frag} (hK : X.K = K) (hu : X.A.units + 65 < cLine) : OpR X (compareOp .In) (rInD K) := by
 subst hK
 intro pins s σ H x y v u Q I rx ry h
 obtain ⟨d, ds, h1, h2, s1, s2, nm, q⟩ := h
 obtain ⟨as, r1⟩ := h1.reads I rx
 obtain ⟨bs, r2⟩ := h2.reads I ry
 exact in_list_dataH r2 r1 s2 s1 hu nm ⟨.bl _, H, I, rfl, q⟩
theorem pe_globI {X : Cx} {x : Str} {i : Int} {pos : Pos} (hg : Gl X x) (hm : ∃ t, X.mg x = some (.int i t)) (hd : (x == ("__debug__" : Str)) = false := by decide) : PE X (.Name x pos) (tC (.int i)) := by
 obtain ⟨t, hm⟩ := hm
 exact pe_glob hg hm ⟨t, rfl⟩ hd
end L2
set_option Elab.async false
set_option linter.all false
set_option maxRecDepth 100000
set_option Elab.async false
set_option linter.all false
set_option maxRecDepth 100000
namespace L2
open PySem PySem.Spec PyProof.Rows
section
variable {X : Cx}
noncomputable def rBestT (K : PySem.W.Frag) (ok : Int → Int → Prop) : List V → Hp → VK → Prop := fun vs H Q => ∃ (l : Addr) (ns : List Int), vs = [.ref l] ∧ SqT K H l (ns.map V.int) ∧ 0 < ns.length ∧ ∀ M, M ∈ ns → (∀ a ∈ ns, ok M a) → Q (.int M) H
theorem call_maxT {K : PySem.W.Frag} (hK : X.K = K) (hcalm : X.calm = true) : CallR X (.builtin "max") (rBestT K fun M a => a ≤ M) := by
 subst hK
 intro pins s σ H xs us Q I r h
 obtain ⟨l, ns, rfl, hl, h0, q⟩ := h
 obtain ⟨u, rfl, rx⟩ := vals1 r
 cases rx
 obtain ⟨its, r', hIs, hz⟩ := I.tuple hl
 obtain ⟨hlen, hat⟩ := val_at r'
 refine call_max_walk (wpAny_pyIter_tuple hIs ?_)
 obtain ⟨o, ho, hcl, n, hdt⟩ := hIs
 have W := Walks.tuple (prog := X.prog) (w := X.w) (A := X.A.in1) (show X.A.in1.handled = none from I.ok.hd hcalm) s.heap.objs.size l (Nat.ne_of_lt (Heap.lt_size ho)) its.toArray
 have S0 : (s.heap.push { cls := .type "tuple_iterator", data := .fields #[.ref l, .int 0 0] }).IsTupleIter s.heap.objs.size l 0 ∧ (s.heap.push { cls := .type "tuple_iterator", data := .fields #[.ref l, .int 0 0] }).IsTuple l its.toArray := ⟨⟨_, Heap.get?_push_size _ rfl, rfl, rfl⟩, ⟨o, Heap.get?_push_of_some _ ho, hcl, n, hdt⟩⟩
 refine ⟨s.heap.objs.size, [s.heap.objs.size, l], [s.heap.objs.size], its.toArray.size, (fun i v => its.toArray[i]? = some v), _, fun i j => decide (ns.getD i 0 > ns.getD j 0), rfl, W, S0, ?_, ?_, CmpOf.ints_gt (fun i => ns.getD i 0) (fun i v hv => hat i v (by simpa using hv)), ?_⟩
 ·intro b hb
  simp only [List.mem_cons, List.not_mem_nil, or_false] at hb
  rw [Heap.size_push]
  rcases hb with rfl | rfl
  ·exact Nat.lt_succ_self _
  ·exact Nat.lt_succ_of_lt (Heap.lt_size ho)
 ·simp only [List.size_toArray]; omega
 ·intro v h' tk hv kp
  obtain ⟨hb1, hb2⟩ := best_gt (fun i => ns.getD i 0) (its.toArray.size - 1)
  simp only [List.size_toArray] at hb1 hb2 hv
  rw [List.getElem?_toArray] at hv
  obtain ⟨t, rfl⟩ := hat _ v hv
  refine ⟨.int _, H, I.kept (t' := tk) (fun b ob hq => kp b ob ?_ (Heap.get?_push_of_some _ hq)), ⟨t, rfl⟩, q _ (mem_of_getD (by omega)) fun a ha => ?_⟩
  ·simp only [List.mem_cons, List.not_mem_nil, or_false]
   exact Nat.ne_of_lt (Heap.lt_size hq)
  ·obtain ⟨j, hj⟩ := List.getElem?_of_mem ha
   have lj := (List.getElem?_eq_some_iff.mp hj).1
   have := hb2 j (by omega)
   rw [show ns.getD j 0 = a by rw [List.getD_eq_getElem?_getD, hj]; rfl] at this
   exact this
end
end L2
set_option Elab.async false
set_option linter.all false
set_option maxRecDepth 100000
namespace L2
open PySem PySem.Spec PyProof.Rows
section
variable {X : Cx}
noncomputable def clrR : V → List V → Hp → VK → Prop := fun x vs H Q => match x, vs with
 | .ref l, [] => optK (lstOf (H l)) fun _ => Q .non (upd H l (.lst []))
 | _, _ => False
variable {o : Expr} {to : TE} {apos cpos : Pos}
theorem mt_clrF : MtM X "list.clear" clrR := by
 intro pins s σ H x vs v us Q I rx rv h
 unfold clrR at h
 split at h
 ·rename_i l
  obtain ⟨xs, e, q⟩ := optK_elim h
  exact mt_clear pins s σ H _ _ v us Q I rx rv ⟨l, xs, rfl, rfl, lstOf_eq e, q⟩
 ·exact h.elim
theorem pe_clr0 (ho : PE X o to) (hbase : attributeBase o "clear" X.env (eval o X.env) = eval o X.env := by rfl) (hline : (apos.endLine == cpos.line) = true := by rfl) : PE X (.Call (.Attribute o "clear" apos) [] [] cpos) (tML0 clrR to) := by
 intro pins s σ H Q I h
 refine pe_bm0 PySem.F.plainAttrs_list PySem.F.slot_list_clear PySem.F.type_list_clear mt_clrF ho.up hbase hline pins s σ H Q I ⟨_, h, fun x H1 q => ?_⟩
 cases x with
 | ref l =>
  obtain ⟨h1, h2⟩ := q
  obtain ⟨xs, e⟩ := Option.isSome_iff_exists.mp h1
  exact ⟨.inl ⟨rfl, xs, SqL.of (lstOf_eq e)⟩, h2⟩
 | _ => exact q.elim
end
end L2
set_option Elab.async false
set_option linter.all false
set_option maxRecDepth 100000
namespace L2
open PySem
mutual
noncomputable def plainD : PyData → Bool
 | .int _ => true
 | .none => true
 | .list xs => plainDs xs
 | .tuple xs => plainDs xs
 | _ => false
noncomputable def plainDs : List PyData → Bool
 | [] => true
 | x :: xs => plainD x && plainDs xs
end
mutual
theorem eqv_iff : ∀ (d e : PyData), plainD d = true → plainD e = true → (PyData.eqv d e = true ↔ d = e)
 | .int a, e, _, he => by
  cases e <;> simp [PyData.eqv, plainD] at he ⊢
 | .none, e, _, he => by
  cases e <;> simp [PyData.eqv, plainD] at he ⊢
 | .list xs, e, hd, he => by
  cases e with
  | list ys =>
   simp only [plainD] at hd he
   simp only [PyData.eqv, PyData.list.injEq]
   exact eqvAll_iff xs ys hd he
  | _ => simp [PyData.eqv, plainD] at he ⊢
 | .tuple xs, e, hd, he => by
  cases e with
  | tuple ys =>
   simp only [plainD] at hd he
   simp only [PyData.eqv, PyData.tuple.injEq]
   exact eqvAll_iff xs ys hd he
  | _ => simp [PyData.eqv, plainD] at he ⊢
 | .bool _, e, hd, _ => by simp [plainD] at hd
 | .str _, e, hd, _ => by simp [plainD] at hd
 | .dict _, e, hd, _ => by simp [plainD] at hd
theorem eqvAll_iff : ∀ (xs ys : List PyData), plainDs xs = true → plainDs ys = true → (PyData.eqvAll xs ys = true ↔ xs = ys)
 | [], [], _, _ => by simp [PyData.eqvAll]
 | [], y :: ys, _, _ => by simp [PyData.eqvAll]
 | x :: xs, [], _, _ => by simp [PyData.eqvAll]
 | x :: xs, y :: ys, hx, hy => by
  simp only [plainDs, Bool.and_eq_true] at hx hy
  simp only [PyData.eqvAll, Bool.and_eq_true, List.cons.injEq]
  rw [eqv_iff x y hx.1 hy.1, eqvAll_iff xs ys hx.2 hy.2]
end
end L2
namespace L2
open PySem PySem.Spec PyProof.Rows
section
variable {g : TG} {tt : TT} {te tl : TE} {k : Nat} {js : List Nat} {σ : St} {Q : VK} {H : Hp} {K : PySem.W.Frag}
theorem tlc_list_up (R : VK) (h : tl σ H R)
  (hb : ∀ x H1, R x H1 → ∃ (a : Addr) (xs : List V), x = .ref a ∧ SqL K H1 a xs ∧ xs.length < 1000000 ∧ ∃ Pv : Addr → Nat → List V → Hp → Prop, (∀ D, H1 D = none → Pv D 0 [] (upd H1 D (.lst []))) ∧
   (∀ D i ys H, i ≤ xs.length → Pv D i ys H → H D = some (.lst ys) ∧ ys.length ≤ i ∧ SqL K H a xs) ∧
   (∀ D i x ys H2, H1 D = none → xs[i]? = some x → Pv D i ys H2 → g x (L2.stLC σ k js) H2 fun σ2 H3 => (σ2.drop k = frV σ js ∧ σ2.length = k + js.length) ∧ tt σ2 H3 fun b H4 => if b = true then te σ2 H4 fun y H5 => H5 D = some (.lst ys) ∧ Pv D (i + 1) (ys ++ [y]) (upd H5 D (.lst (ys ++ [y]))) else Pv D (i + 1) ys H4) ∧
   ∀ D ys H2, H1 D = none → Pv D xs.length ys H2 → Q (.ref D) H2) : tLC (iList K (tUp tl)) k js g tt te σ H Q := by
 refine ⟨R, h, fun x H1 q => ?_⟩
 obtain ⟨a, xs, rfl, hq, hn, Pv, h0, hl, hs, hd⟩ := hb x H1 q
 exact ⟨a, rfl, ⟨xs, hq⟩, fun D hD => lc_list (Pv D) (h0 D hD) (Nat.lt_trans hn (by decide)) (fun i ys H hi p => hl D i ys H hi p) (fun i x ys H hi p => hs D i x ys H hD hi p) (fun ys H p => hd D ys H hD p)⟩
end
end L2
set_option Elab.async false
set_option linter.all false
set_option maxRecDepth 100000
set_option Elab.async false
set_option linter.all false
set_option maxRecDepth 100000
namespace L2
open PySem PySem.Spec PyProof.Rows
section
variable {X : Cx} {a b : Expr} {ta tb : TE} {pos : Pos}
noncomputable def fVar (i : Nat) : TE := fun σ H Q => match σ[i]? with
 | some (some v) => Q v H
 | _ => False
theorem pvF (i : Nat) {x : Str} (hN : X.N[i]? = some x := by rfl) (hv : Vis X.env.scope x := by first | exact Or.inl rfl | exact Or.inr (Or.inl rfl) | exact Or.inr (Or.inr rfl)) (hd : (x == ("__debug__" : Str)) = false := by decide)
  (hcd : (x == ("__classdict__" : Str)) = false := by decide) : PE X (.Name x pos) (fVar i) := by
 intro pins s σ H Q I h
 refine pv i hN hv hd hcd pins s σ H Q I ?_
 unfold fVar at h
 split at h
 ·exact ⟨_, ‹_›, h⟩
 ·exact h.elim
noncomputable def fI (C : Int → Int → Prop) (g : Int → Int → V) : R2 := fun x y H Q => match x, y with
 | .int i, .int j => C i j ∧ Q (g i j) H
 | _, _ => False
noncomputable def fI0 (g : Int → Int → V) : R2 := fun x y H Q => match x, y with
 | .int i, .int j => Q (g i j) H
 | _, _ => False
noncomputable def fU (g : Int → V) : V → Hp → VK → Prop := fun x H Q => match x with
 | .int i => Q (g i) H
 | _ => False
theorem OpR.f {F : Value → Value → Sem Value} {C : Int → Int → Prop} {g : Int → Int → V} (h : OpR X F (rI C g)) : OpR X F (fI C g) := by
 intro pins s σ H x y v u Q I r1 r2 q
 refine h pins s σ H x y v u Q I r1 r2 ?_
 unfold fI at q
 split at q
 ·exact ⟨_, _, rfl, rfl, q.1, q.2⟩
 ·exact q.elim
theorem OpR.f0 {F : Value → Value → Sem Value} {g : Int → Int → V} (h : OpR X F (rI0 g)) : OpR X F (fI0 g) := by
 intro pins s σ H x y v u Q I r1 r2 q
 refine h pins s σ H x y v u Q I r1 r2 ?_
 unfold fI0 at q
 split at q
 ·exact ⟨_, _, rfl, rfl, q⟩
 ·exact q.elim
theorem UnR.f {F : Value → Sem Value} {g : Int → V} (h : UnR X F (rU g)) : UnR X F (fU g) := by
 intro pins s σ H x v Q I r1 q
 refine h pins s σ H x v Q I r1 ?_
 unfold fU at q
 split at q
 ·exact ⟨_, rfl, q⟩
 ·exact q.elim
noncomputable def fEq : R2 := fun x y H Q => match x, y with
 | .int i, .int j => Q (.bl (decide (i = j))) H
 | _, _ => rEq x y H Q
noncomputable def fNe : R2 := fun x y H Q => match x, y with
 | .int i, .int j => Q (.bl (!decide (i = j))) H
 | _, _ => rNe x y H Q
theorem OpR.e {F : Value → Value → Sem Value} (h : OpR X F rEq) : OpR X F fEq := by
 intro pins s σ H x y v u Q I r1 r2 q
 refine h pins s σ H x y v u Q I r1 r2 ?_
 unfold fEq at q
 split at q
 ·refine ⟨rfl, ?_⟩
  simpa only [V.int.injEq] using q
 ·exact q
theorem OpR.n {F : Value → Value → Sem Value} (h : OpR X F rNe) : OpR X F fNe := by
 intro pins s σ H x y v u Q I r1 r2 q
 refine h pins s σ H x y v u Q I r1 r2 ?_
 unfold fNe at q
 split at q
 ·refine ⟨rfl, ?_⟩
  simpa only [V.int.injEq] using q
 ·exact q
theorem op_eqI : OpR X (compareOp .Eq) (fI0 fun i j => .bl (decide (i = j))) := OpR.f0 (opB0 fun _ _ _ _ _ _ _ q => eq_int q)
theorem op_neI : OpR X (compareOp .NotEq) (fI0 fun i j => .bl (!decide (i = j))) := OpR.f0 (opB0 fun _ _ _ _ _ _ _ q => ne_int q)
noncomputable def fNeB : R2 := fun x y H Q => match x, y with
 | .bl i, .bl j => Q (.bl (!decide (i = j))) H
 | _, _ => False
noncomputable def fTest (t : TE) : TT := fun σ H Q => t σ H fun x H' => match x with
 | .bl k => Q k H'
 | _ => False
theorem pt_cmpF {op : CmpOp} {r : R2} (ho : OpR X (compareOp op) r) (ha : PE X a ta) (hb : PE X b tb) (hm : behindInMarks op b = false) : PT X (.Compare a [op] [b] pos) (fTest (tOp r ta tb)) := by
 intro pins s σ H Q I h
 refine wpAny_isTrue_Compare1 (thn (ha pins s σ H _ I h) fun v s1 ⟨x, H1, I1, r1, q1⟩ => thn (hb pins s1 σ H1 _ I1 q1) fun u s2 ⟨y, H2, I2, r2, q2⟩ =>
  thn (ho pins s2 σ H2 x y v u _ I2 r1 r2 q2) fun c s3 ⟨z, H3, I3, r3, q3⟩ => ?_) hm
 dsimp only at q3
 split at q3
 ·cases r3
  exact wpAny_truthy_bool ⟨H3, I3, q3⟩
 ·exact q3.elim
noncomputable def fCons (t : TG) (u : TGs) : TGs := fun vs σ H Q => match vs with
 | v :: r => t v σ H fun σ' H' => u r σ' H' Q
 | [] => False
noncomputable def fNil : TGs := fun vs σ H Q => match vs with
 | [] => Q σ H
 | _ => False
theorem pgs_nilF : PGs X [] fNil := by
 intro pins s σ H vs us Q I r h
 refine pgs_nil pins s σ H vs us Q I r ?_
 unfold fNil at h
 split at h
 ·exact ⟨rfl, h⟩
 ·exact h.elim
theorem pgs_consF {e : Expr} {es : List Expr} {t : TG} {u : TGs} (h1 : PG X e t) (h2 : PGs X es u)
  (hs : (assignEach (e :: es) X.env).map (·.2) = assign e X.env :: (assignEach es X.env).map (·.2) := by rfl) : PGs X (e :: es) (fCons t u) := by
 intro pins s σ H vs us Q I r h
 refine pgs_cons h1 h2 hs pins s σ H vs us Q I r ?_
 unfold fCons at h
 split at h
 ·exact ⟨_, _, rfl, h⟩
 ·exact h.elim
theorem pt_valF {e : Expr} {t : TE} (h : PE X e t) (he : ∀ whole, isTrue e X.env whole = (do let v ← whole; standAt e.pos; holding [v] (truthy v)) := by intro _; rfl) : PT X e (fTest t) := by
 intro pins s σ H Q I hw
 refine isTrue_plain (thn (h pins s σ H _ I hw) fun v s1 ⟨x, H1, I1, r1, q1⟩ => ?_) (he _)
 dsimp only at q1
 split at q1
 ·cases r1
  exact wpAny_truthy_bool ⟨H1, I1, q1⟩
 ·exact q1.elim
end
end L2
set_option Elab.async false
set_option linter.all false
set_option maxRecDepth 100000
namespace L2
open PySem PySem.Spec PyProof.Rows
noncomputable def tDgI (td ti : TE) : TE := fun σ H Q => td σ H fun x H1 => ti σ H1 fun y H2 => match x, y with
 | .ref a, .int i => optK (dkOf (H2 a)) fun kvs => optK (valV kvs (Sum.inl i)) fun v => Q v H2
 | _, _ => False
noncomputable def tDpI (td ti tv : TE) : TS := fun D σ H => tv σ H fun v H1 => td σ H1 fun x H2 => ti σ H2 fun y H3 => match x, y with
 | .ref a, .int i => optK (dkOf (H3 a)) fun kvs => kvs.length < 1000000 ∧ D.nx σ (upd H3 a (.dK (putK kvs (Sum.inl i) v)))
 | _, _ => False
noncomputable def tDgetI (td ti tx : TE) : TE := fun σ H Q => td σ H fun x H1 => match x with
 | .ref a => (dkOf (H1 a)).isSome = true ∧ ti σ H1 fun y H2 => tx σ H2 fun z H3 => match y with
  | .int i => optK (dkOf (H3 a)) fun kvs => Q ((valV kvs (Sum.inl i)).getD z) H3
  | _ => False
 | _ => False
noncomputable def popAtR : V → List V → Hp → VK → Prop := fun x vs H Q => match x, vs with
 | .ref l, [.int i] => optK (lstOf (H l)) fun xs => xs.length < 1000000 ∧ optK (ixN xs.length i) fun k => optK (xs[k]?) fun y => Q y (upd H l (.lst (xs.eraseIdx k)))
 | _, _ => False
noncomputable def revR : V → List V → Hp → VK → Prop := fun x vs H Q => match x, vs with
 | .ref l, [] => optK (lstOf (H l)) fun xs => Q .non (upd H l (.lst xs.reverse))
 | _, _ => False
noncomputable def insAt (n : Nat) (i : Int) : Nat := if i < 0 then (i + (n : Int)).toNat else min i.toNat n
noncomputable def insR : V → List V → Hp → VK → Prop := fun x vs H Q => match x, vs with
 | .ref l, [.int i, y] => optK (lstOf (H l)) fun xs => xs.length < 1000000 ∧ (-(2 ^ 63) ≤ i ∧ i < 2 ^ 63) ∧ Q .non (upd H l (.lst (xs.take (insAt xs.length i) ++ [y] ++ xs.drop (insAt xs.length i))))
 | _, _ => False
end L2
set_option Elab.async false
set_option linter.all false
set_option maxRecDepth 100000
namespace L2
open PySem PySem.Spec PyProof.Rows
noncomputable def rRng1 : List V → Hp → VK → Prop := fun vs H Q => ∃ n : Nat, vs = [.int (n : Int)] ∧ n ≤ 1000000 ∧ ∀ r, H r = none → Q (.ref r) (upd H r (.rng 0 (n : Int)))
section
variable {X : Cx}
theorem call_rng1 : CallR X (.type "range") rRng1 := by
 intro pins s σ H xs us Q I r h
 obtain ⟨n, rfl, hn, q⟩ := h
 obtain ⟨u, rfl, ru⟩ := vals1 r
 obtain ⟨t, rfl⟩ := ru
 refine call_range_1 ?_
 refine ⟨.ref s.heap.objs.size, _, I.laid (t' := s.toks + 1 + 1) (o := .rng 0 (n : Int)) (fun b ob e => Heap.get?_push_of_some _ e) (Nat.le_refl _) ?_, rfl, q _ (I.hok.fresh (Nat.le_refl _))⟩
 exact ⟨_, _, _, Heap.get?_push_size _ rfl⟩
end
end L2
set_option Elab.async false
set_option linter.all false
set_option maxRecDepth 100000
namespace SR
open PySem PySem.W PyProof.Rows
noncomputable def evT (lt : Nat → Nat → Bool) {α : Type} : KasT α → α
 | .ret a => a
 | .ask i j k => evT lt (k (lt i j))
theorem evT_bind (lt : Nat → Nat → Bool) {α β : Type} (f : α → KasT β) : ∀ t : KasT α, evT lt (t.bind f) = evT lt (f (evT lt t))
 | .ret _ => rfl
 | .ask i j k => evT_bind lt f (k (lt i j))
noncomputable abbrev g (p : Array Nat) (i : Nat) : Nat := p.getD i 0
theorem g_of {p q : Array Nat} {i j : Nat} (h : p[i]? = q[j]?) : g p i = g q j := by
 unfold g
 rw [Array.getD_eq_getD_getElem?, Array.getD_eq_getD_getElem?, h]
structure Ord (lt : Nat → Nat → Bool) : Prop where
 as : ∀ a b, lt a b = true → lt b a = false
 tr : ∀ a b c, lt b a = false → lt c b = false → lt c a = false
noncomputable def sl (lt : Nat → Nat → Bool) (a b : Nat) : Prop := lt a b = true ∨ (lt b a = false ∧ a < b)
section
variable {lt : Nat → Nat → Bool} (O : Ord lt)
include O
theorem sl_le {a b : Nat} (h : sl lt a b) : lt b a = false := h.elim (O.as a b) fun q => q.1
theorem lt_le {a b c : Nat} (h1 : lt a b = true) (h2 : lt c b = false) : lt a c = true := by
 cases e : lt a c with
 | true => rfl
 | false =>
  have := O.tr _ _ _ h2 e
  rw [h1] at this
  cases this
theorem le_lt {a b c : Nat} (h1 : lt b a = false) (h2 : lt b c = true) : lt a c = true := by
 cases e : lt a c with
 | true => rfl
 | false =>
  have := O.tr _ _ _ e h1
  rw [h2] at this
  cases this
theorem sl_trans {a b c : Nat} (h1 : sl lt a b) (h2 : sl lt b c) : sl lt a c := by
 rcases h1 with q | ⟨q1, q2⟩
 ·exact .inl (lt_le O q (sl_le O h2))
 ·rcases h2 with r | ⟨r1, r2⟩
  ·exact .inl (le_lt O q1 r)
  ·exact .inr ⟨O.tr _ _ _ q1 r1, by omega⟩
end
noncomputable def Asc (lt : Nat → Nat → Bool) (p : Array Nat) (m : Nat) : Prop := ∀ i j, i < j → j < m → sl lt (g p i) (g p j)
noncomputable def Dsc (lt : Nat → Nat → Bool) (p : Array Nat) (m : Nat) : Prop := ∀ i j, i < j → j < m → sl lt (g p j) (g p i)
structure Pre (N : Nat) (p : Array Nat) (n : Nat) : Prop where
 sz : p.size = N
 pm : p.Perm (List.toArray (List.range N))
 hi : ∀ k, n ≤ k → k < N → g p k = k
 lo : ∀ k, k < n → g p k < n
 le : n ≤ N
theorem g_rev {p : Array Nat} {i j : Nat} (hj : j ≤ p.size) (k : Nat) : g (kas_rev p i j) k = if i ≤ k ∧ k < j then g p (i + j - 1 - k) else g p k := by
 have e := getElem?_mirror_all (i := i) hj k
 by_cases h : i ≤ k ∧ k < j
 ·rw [if_pos h] at e ⊢
  exact g_of e
 ·rw [if_neg h] at e ⊢
  exact g_of e
theorem Pre.rev {N n : Nat} {p : Array Nat} (h : Pre N p n) {i j : Nat} (hj : j ≤ n) : Pre N (kas_rev p i j) n := by
 have z := h.sz
 have l := h.le
 refine ⟨(mirror_size _ _ _ _).trans h.sz, (mirror_perm _ _ _ _).trans h.pm, fun k h1 h2 => ?_, fun k hk => ?_, h.le⟩
 ·rw [g_rev (by omega), if_neg (by omega)]
  exact h.hi k h1 h2
 ·rw [g_rev (by omega)]
  split
  ·exact h.lo _ (by omega)
  ·exact h.lo k hk
theorem Pre.succ {N n : Nat} {p : Array Nat} (h : Pre N p n) (hn : n < N) : Pre N p (n + 1) := by
 refine ⟨h.sz, h.pm, fun k h1 h2 => h.hi k (by omega) h2, fun k hk => ?_, hn⟩
 by_cases e : k = n
 ·rw [e, h.hi n (Nat.le_refl _) hn]
  omega
 ·have := h.lo k (by omega)
  omega
section
variable {lt : Nat → Nat → Bool} (O : Ord lt) {N : Nat}
include O
theorem asc_step {p : Array Nat} {n : Nat} (h : Asc lt p n) (hP : Pre N p n) (hn : n < N) (h1 : 1 ≤ n) (c : lt (g p n) (g p (n - 1)) = false) : Asc lt p (n + 1) := fun i j hij hj => by
 by_cases e : j = n
 ·subst e
  have last : sl lt (g p (j - 1)) (g p j) := .inr ⟨c, by rw [hP.hi j (Nat.le_refl _) hn]; exact hP.lo _ (by omega)⟩
  by_cases e2 : i = j - 1
  ·rw [e2]
   exact last
  ·exact sl_trans O (h i (j - 1) (by omega) (by omega)) last
 ·exact h i j hij (by omega)
theorem asc_ok {p : Array Nat} : ∀ (f n : Nat), Asc lt p n → Pre N p n → 1 ≤ n → n + f = N → ∃ m, evT lt (kas_asc p f n) = m ∧ n ≤ m ∧ m ≤ N ∧ Asc lt p m ∧ Pre N p m ∧ (m < N → lt (g p m) (g p (m - 1)) = true)
 | 0, n, h, hP, h1, e => ⟨n, rfl, Nat.le_refl _, by omega, h, hP, fun q => by omega⟩
 | f + 1, n, h, hP, h1, e => by
  show ∃ m, evT lt (if lt (g p n) (g p (n - 1)) = true then KasT.ret n else kas_asc p f (n + 1)) = m ∧ _
  by_cases c : lt (g p n) (g p (n - 1)) = true
  ·rw [if_pos c]
   exact ⟨n, rfl, Nat.le_refl _, by omega, h, hP, fun _ => c⟩
  ·rw [if_neg c]
   have c' : lt (g p n) (g p (n - 1)) = false := by simpa using c
   obtain ⟨m, e1, e2, e3, e4, e5, e6⟩ := asc_ok f (n + 1) (asc_step O h hP (by omega) h1 c') (hP.succ (by omega)) (by omega) (by omega)
   exact ⟨m, e1, by omega, e3, e4, e5, e6⟩
end
structure Dn (lt : Nat → Nat → Bool) (p : Array Nat) (n q : Nat) : Prop where
 qn : q + 1 ≤ n
 d1 : ∀ i j, i < j → j < n - (q + 1) → sl lt (g p j) (g p i)
 d2 : ∀ i j, i < n - (q + 1) → n - (q + 1) ≤ j → j < n → lt (g p j) (g p i) = true
 d3 : ∀ i j, n - (q + 1) ≤ i → i < j → j < n → lt (g p j) (g p i) = false ∧ lt (g p i) (g p j) = false ∧ g p i < g p j
section
variable {lt : Nat → Nat → Bool} (O : Ord lt) {N : Nat}
include O
theorem Dn.close {p : Array Nat} {n q : Nat} (h : Dn lt p n q) (hn : n ≤ p.size) : Dsc lt (if q > 0 then kas_rev p (n - (q + 1)) n else p) n := fun i j hij hj => by
 have qn := h.qn
 have val : ∀ k, k < n → g (if q > 0 then kas_rev p (n - (q + 1)) n else p) k = if n - (q + 1) ≤ k then g p (n - (q + 1) + n - 1 - k) else g p k := fun k hk => by
  by_cases c : q > 0
  ·rw [if_pos c, g_rev hn]
   by_cases c2 : n - (q + 1) ≤ k
   ·rw [if_pos ⟨c2, hk⟩, if_pos c2]
   ·rw [if_neg (fun z => c2 z.1), if_neg c2]
  ·rw [if_neg c]
   split
   ·congr 1
    omega
   ·rfl
 rw [val i (by omega), val j hj]
 by_cases c : n - (q + 1) ≤ i
 ·rw [if_pos c, if_pos (by omega)]
  obtain ⟨a, b, e⟩ := h.d3 (n - (q + 1) + n - 1 - j) (n - (q + 1) + n - 1 - i) (by omega) (by omega) (by omega)
  exact .inr ⟨a, e⟩
 ·rw [if_neg c]
  by_cases c2 : n - (q + 1) ≤ j
  ·rw [if_pos c2]
   exact .inl (h.d2 i _ (by omega) (by omega) (by omega))
  ·rw [if_neg c2]
   exact h.d1 i j hij (by omega)
theorem Dn.eqs {p : Array Nat} {n q : Nat} (h : Dn lt p n q) {i : Nat} (h1 : n - (q + 1) ≤ i) (h2 : i < n) : lt (g p i) (g p (n - 1)) = false ∧ lt (g p (n - 1)) (g p i) = false := by
 by_cases e : i = n - 1
 ·subst e
  have : ∀ a, lt a a = false := fun a => by
   cases q : lt a a with
   | false => rfl
   | true => rw [O.as a a q] at q; cases q
  exact ⟨this _, this _⟩
 ·obtain ⟨a, b, _⟩ := h.d3 i (n - 1) h1 (by omega) (by omega)
  exact ⟨b, a⟩
theorem desc_ok : ∀ (f : Nat) (p : Array Nat) (n q : Nat), Dn lt p n q → Pre N p n → n + f = N → ∃ p' n' q', evT lt (kas_desc f p n q) = (p', n', q') ∧ Dn lt p' n' q' ∧ Pre N p' n' ∧ n ≤ n'
 | 0, p, n, q, h, hP, e => ⟨p, n, q, rfl, h, hP, Nat.le_refl _⟩
 | f + 1, p, n, q, h, hP, e => by
  have qn := h.qn
  have z := hP.sz
  show ∃ p' n' q', evT lt (if lt (g p n) (g p (n - 1)) = true then (if q > 0 then kas_desc f (kas_rev p (n - (q + 1)) n) (n + 1) 0 else kas_desc f p (n + 1) 0) else .ask (p.getD (n - 1) 0) (p.getD n 0) fun d => if d = true then .ret (p, n, q) else kas_desc f p (n + 1) (q + 1)) = (p', n', q') ∧ _
  by_cases c : lt (g p n) (g p (n - 1)) = true
  ·rw [if_pos c]
   have ds := Dn.close O h (by omega)
   have eq2 : (if q > 0 then kas_desc f (kas_rev p (n - (q + 1)) n) (n + 1) 0 else kas_desc f p (n + 1) 0) = kas_desc f (if q > 0 then kas_rev p (n - (q + 1)) n else p) (n + 1) 0 := by split <;> rfl
   rw [eq2]
   have hP' : Pre N (if q > 0 then kas_rev p (n - (q + 1)) n else p) n := by
    split
    ·exact hP.rev (Nat.le_refl _)
    ·exact hP
   have low : ∀ i, i < n → lt (g p n) (g (if q > 0 then kas_rev p (n - (q + 1)) n else p) i) = true := fun i hi => by
    have key : ∀ k, k < n → lt (g p n) (g p k) = true := fun k hk => by
     by_cases c2 : n - (q + 1) ≤ k
     ·exact lt_le O c (Dn.eqs O h c2 hk).1
     ·exact lt_le O c (O.as _ _ (h.d2 k (n - 1) (by omega) (by omega) (by omega)))
    split
    ·rw [g_rev (by omega)]
     split
     ·exact key _ (by omega)
     ·exact key i hi
    ·exact key i hi
   have gn : g (if q > 0 then kas_rev p (n - (q + 1)) n else p) n = g p n := by
    rw [hP'.hi n (Nat.le_refl _) (by omega), hP.hi n (Nat.le_refl _) (by omega)]
   generalize (if q > 0 then kas_rev p (n - (q + 1)) n else p) = p2 at ds hP' low gn
   obtain ⟨p', n', q', e1, e2, e3, e4⟩ := desc_ok f p2 (n + 1) 0 ⟨by omega, fun i j h1 h2 => ds i j h1 (by omega), fun i j h1 h2 h3 => by
    have : j = n := by omega
    rw [this, gn]
    exact low i (by omega), fun i j h1 h2 h3 => by omega⟩ (hP'.succ (by omega)) (by omega)
   exact ⟨p', n', q', e1, e2, e3, by omega⟩
  ·rw [if_neg c]
   have c' : lt (g p n) (g p (n - 1)) = false := by simpa using c
   show ∃ p' n' q', evT lt (if lt (g p (n - 1)) (g p n) = true then KasT.ret (p, n, q) else kas_desc f p (n + 1) (q + 1)) = (p', n', q') ∧ _
   by_cases d : lt (g p (n - 1)) (g p n) = true
   ·rw [if_pos d]
    exact ⟨p, n, q, rfl, h, hP, Nat.le_refl _⟩
   ·rw [if_neg d]
    have d' : lt (g p (n - 1)) (g p n) = false := by simpa using d
    have gn := hP.hi n (Nat.le_refl _) (by omega)
    obtain ⟨p', n', q', e1, e2, e3, e4⟩ := desc_ok f p (n + 1) (q + 1) ⟨by omega, fun i j h1 h2 => h.d1 i j h1 (by omega), fun i j h1 h2 h3 => by
     by_cases ej : j = n
     ·rw [ej]
      exact le_lt O d' (h.d2 i (n - 1) (by omega) (by omega) (by omega))
     ·exact h.d2 i j (by omega) (by omega) (by omega), fun i j h1 h2 h3 => by
     by_cases ej : j = n
     ·subst ej
      have E := Dn.eqs O h (i := i) (by omega) h2
      refine ⟨O.tr _ _ _ E.2 c', O.tr _ _ _ d' E.1, ?_⟩
      rw [gn]
      exact hP.lo i h2
     ·exact h.d3 i j (by omega) h2 (by omega)⟩ (hP.succ (by omega)) (by omega)
    exact ⟨p', n', q', e1, e2, e3, by omega⟩
theorem dsc_rev {p : Array Nat} {n : Nat} (h : Dsc lt p n) (hn : n ≤ p.size) : Asc lt (kas_rev p 0 n) n := fun i j hij hj => by
 rw [g_rev hn, g_rev hn, if_pos ⟨Nat.zero_le _, by omega⟩, if_pos ⟨Nat.zero_le _, hj⟩]
 exact h _ _ (by omega) (by omega)
theorem tail_ok {p : Array Nat} {n : Nat} (h : Dsc lt p n) (hP : Pre N p n) (h1 : 1 ≤ n) : ∃ m p', evT lt (kas_tail3 n N p) = (m, p') ∧ Asc lt p' m ∧ Pre N p' m ∧ 1 ≤ m := by
 unfold kas_tail3
 rw [evT_bind]
 have l := hP.le
 have z := hP.sz
 obtain ⟨m, e1, e2, e3, e4, e5, e6⟩ := asc_ok O (N - n) n (dsc_rev O h (by omega)) (hP.rev (Nat.le_refl _)) h1 (by omega)
 rw [e1]
 exact ⟨m, _, rfl, e4, e5, by omega⟩
theorem descPart_ok {p : Array Nat} {n : Nat} (h : Dsc lt p n) (hP : Pre N p n) (h1 : 1 ≤ n) (hn : n < N) (low : ∀ i, i < n → lt (g p n) (g p i) = true) : ∃ m p', evT lt (kas_descPart n N p) = (m, p') ∧ Asc lt p' m ∧ Pre N p' m ∧ 1 ≤ m := by
 unfold kas_descPart
 rw [evT_bind]
 obtain ⟨p', n', q', e1, e2, e3, e4⟩ := desc_ok O (N - (n + 1)) p (n + 1) 0 ⟨by omega, fun i j a b => h i j a (by omega), fun i j a b c => by
  have : j = n := by omega
  rw [this]
  exact low i (by omega), fun i j a b c => by omega⟩ (hP.succ hn) (by omega)
 rw [e1]
 have z := e3.sz
 have l := e3.le
 have ds := Dn.close O e2 (by omega)
 have hP' : Pre N (if q' > 0 then kas_rev p' (n' - (q' + 1)) n' else p') n' := by
  split
  ·exact e3.rev (Nat.le_refl _)
  ·exact e3
 have := tail_ok O ds hP' (by omega)
 dsimp only
 split
 ·rename_i c
  rw [if_pos c] at this
  exact this
 ·rename_i c
  rw [if_neg c] at this
  exact this
theorem count_ok (h2 : 2 ≤ N) : ∃ m p', evT lt (kas_count N (List.toArray (List.range N))) = (m, p') ∧ Asc lt p' m ∧ Pre N p' m ∧ 1 ≤ m := by
 have gr : ∀ k, k < N → g (List.toArray (List.range N)) k = k := fun k hk => by
  unfold g
  rw [Array.getD_eq_getD_getElem?]
  simp [hk]
 have hP : ∀ n, n ≤ N → Pre N (List.toArray (List.range N)) n := fun n hn => ⟨by simp, .refl _, fun k _ h => gr k h, fun k hk => by rw [gr k (by omega)]; exact hk, hn⟩
 unfold kas_count
 rw [evT_bind]
 obtain ⟨n, e1, e2, e3, e4, e5, e6⟩ := asc_ok O (p := List.toArray (List.range N)) (N - 1) 1 (fun i j a b => by omega) (hP 1 (by omega)) (Nat.le_refl _) (by omega)
 rw [e1]
 by_cases c : (n == N) = true
 ·rw [if_pos c]
  exact ⟨n, _, rfl, e4, e5, e2⟩
 ·rw [if_neg c]
  have hn : n < N := by
   have : n ≠ N := by simpa using c
   omega
  have st := e6 hn
  by_cases c1 : n > 1
  ·rw [if_pos c1]
   show ∃ m p', evT lt (if lt (g _ 0) (g _ (n - 1)) = true then KasT.ret (n, _) else kas_descPart n N (kas_rev _ 0 n)) = (m, p') ∧ _
   by_cases c2 : lt (g (List.toArray (List.range N)) 0) (g (List.toArray (List.range N)) (n - 1)) = true
   ·rw [if_pos c2]
    exact ⟨n, _, rfl, e4, e5, e2⟩
   ·rw [if_neg c2]
    have c2' : lt (g (List.toArray (List.range N)) 0) (g (List.toArray (List.range N)) (n - 1)) = false := by simpa using c2
    have z := (hP n e3).sz
    have irr : ∀ a, lt a a = false := fun a => by
     cases q : lt a a with
     | false => rfl
     | true => rw [O.as a a q] at q; cases q
    have up : ∀ i j, i ≤ j → j < n → lt (g (List.toArray (List.range N)) j) (g (List.toArray (List.range N)) i) = false := fun i j h1 h2 => by
     by_cases e : i = j
     ·rw [e]
      exact irr _
     ·exact sl_le O (e4 i j (by omega) h2)
    have all : ∀ i j, i < n → j < n → lt (g (List.toArray (List.range N)) i) (g (List.toArray (List.range N)) j) = false := fun i j h1 h2 =>
     O.tr _ _ _ (O.tr _ _ _ (up j (n - 1) (by omega) (by omega)) c2') (up 0 i (Nat.zero_le _) h1)
    refine descPart_ok O (fun i j h1 h2 => ?_) ((hP n e3).rev (Nat.le_refl _)) e2 hn fun i hi => ?_
    ·rw [g_rev (by omega), g_rev (by omega), if_pos ⟨Nat.zero_le _, h2⟩, if_pos ⟨Nat.zero_le _, by omega⟩]
     refine .inr ⟨all _ _ (by omega) (by omega), ?_⟩
     rw [gr _ (by omega), gr _ (by omega)]
     omega
    ·rw [g_rev (by omega), g_rev (by omega), if_neg (by omega), if_pos ⟨Nat.zero_le _, hi⟩]
     exact lt_le O st (all _ _ (by omega) (by omega))
  ·rw [if_neg c1]
   have : n = 1 := by omega
   subst this
   exact descPart_ok O (fun i j h1 h2 => by omega) (hP 1 e3) (Nat.le_refl _) hn fun i hi => by
    have : i = 0 := by omega
    rw [this]
    exact st
theorem place_ok {p : Array Nat} {k : Nat} (h : Asc lt p k) : ∀ (f l r : Nat), l ≤ r → r ≤ k → r - l ≤ f → (∀ i, i < l → lt (g p k) (g p i) = false) → (∀ i, r ≤ i → i < k → lt (g p k) (g p i) = true) →
  ∃ x, evT lt (kas_place p k f l r) = x ∧ x ≤ k ∧ (∀ i, i < x → lt (g p k) (g p i) = false) ∧ ∀ i, x ≤ i → i < k → lt (g p k) (g p i) = true
 | 0, l, r, h1, h2, h3, h4, h5 => ⟨l, rfl, by omega, h4, fun i a b => h5 i (by omega) b⟩
 | f + 1, l, r, h1, h2, h3, h4, h5 => by
  have irr : ∀ a, lt a a = false := fun a => by
   cases q : lt a a with
   | false => rfl
   | true => rw [O.as a a q] at q; cases q
  have up : ∀ i j, i ≤ j → j < k → lt (g p j) (g p i) = false := fun i j h1 h2 => by
   by_cases e : i = j
   ·rw [e]
    exact irr _
   ·exact sl_le O (h i j (by omega) h2)
  show ∃ x, evT lt (if l ≥ r then KasT.ret l else .ask (p.getD k 0) (p.getD ((l + r) / 2) 0) fun c => if c = true then kas_place p k f l ((l + r) / 2) else kas_place p k f ((l + r) / 2 + 1) r) = x ∧ _
  by_cases c : l ≥ r
  ·rw [if_pos c]
   exact ⟨l, rfl, by omega, h4, fun i a b => h5 i (by omega) b⟩
  ·rw [if_neg c]
   show ∃ x, evT lt (if lt (g p k) (g p ((l + r) / 2)) = true then kas_place p k f l ((l + r) / 2) else kas_place p k f ((l + r) / 2 + 1) r) = x ∧ _
   by_cases d : lt (g p k) (g p ((l + r) / 2)) = true
   ·rw [if_pos d]
    exact place_ok h f l ((l + r) / 2) (by omega) (by omega) (by omega) h4 fun i a b => lt_le O d (up _ _ a b)
   ·rw [if_neg d]
    have d' : lt (g p k) (g p ((l + r) / 2)) = false := by simpa using d
    exact place_ok h f ((l + r) / 2 + 1) r (by omega) h2 (by omega) (fun i a => O.tr _ _ _ (up i ((l + r) / 2) (by omega) (by omega)) d') h5
theorem bin_ok : ∀ (f : Nat) (p : Array Nat) (k : Nat), Asc lt p k → Pre N p k → k + f = N → ∃ p', evT lt (kas_bin f p k) = p' ∧ Asc lt p' N ∧ Pre N p' N
 | 0, p, k, h, hP, e => by
  have e' : k = N := e
  subst e'
  exact ⟨p, rfl, h, hP⟩
 | f + 1, p, k, h, hP, e => by
  show ∃ p', evT lt ((kas_place p k k 0 k).bind fun l => kas_bin f (bubble p k (k - l)) (k + 1)) = p' ∧ _
  rw [evT_bind]
  obtain ⟨x, e1, xk, q1, q2⟩ := place_ok O h k 0 k (Nat.zero_le _) (Nat.le_refl _) (by omega) (fun i a => absurd a (Nat.not_lt_zero _)) fun i a b => by omega
  rw [e1]
  have z := hP.sz
  have gb : ∀ i, g (bubble p k (k - x)) i = if i = x then g p k else if x < i ∧ i ≤ k then g p (i - 1) else g p i := fun i => by
   have e := getElem?_bubble (xs := p) (src := k) (by omega) (k - x) (by omega) i
   rw [show k - (k - x) = x by omega] at e
   by_cases c1 : i = x
   ·rw [if_pos c1] at e ⊢
    exact g_of e
   ·rw [if_neg c1] at e ⊢
    by_cases c2 : x < i ∧ i ≤ k
    ·rw [if_pos c2] at e ⊢
     exact g_of e
    ·rw [if_neg c2] at e ⊢
     exact g_of e
  have hk := hP.hi k (Nat.le_refl _) (by omega)
  refine bin_ok f (bubble p k (k - x)) (k + 1) (fun i j hij hj => ?_) ⟨(bubble_size _ _ _).trans z, (bubble_perm _ _ _).trans hP.pm, fun i h1 h2 => ?_, fun i hi => ?_, by omega⟩ (by omega)
  ·rw [gb, gb]
   by_cases c1 : i = x
   ·rw [if_pos c1, if_neg (by omega), if_pos (by omega)]
    exact .inl (q2 _ (by omega) (by omega))
   ·rw [if_neg c1]
    by_cases c2 : j = x
    ·rw [if_pos c2, if_neg (by omega)]
     refine .inr ⟨q1 i (by omega), ?_⟩
     rw [hk]
     exact hP.lo i (by omega)
    ·rw [if_neg c2]
     by_cases c3 : x < i ∧ i ≤ k
     ·rw [if_pos c3, if_pos (by omega)]
      exact h _ _ (by omega) (by omega)
     ·rw [if_neg c3]
      by_cases c4 : x < j ∧ j ≤ k
      ·rw [if_pos c4]
       exact h _ _ (by omega) (by omega)
      ·rw [if_neg c4]
       exact h _ _ hij (by omega)
  ·rw [gb, if_neg (by omega), if_neg (by omega)]
   exact hP.hi i (by omega) h2
  ·rw [gb]
   split
   ·omega
   ·split
    ·have := hP.lo (i - 1) (by omega)
     omega
    ·have := hP.lo i (by omega)
     omega
theorem sort_ok (h2 : 2 ≤ N) : ∃ p, evT lt (kas_sort N) = p ∧ p.size = N ∧ p.Perm (List.toArray (List.range N)) ∧ Asc lt p N := by
 unfold kas_sort
 rw [evT_bind]
 obtain ⟨m, p', e, h, hP, m1⟩ := count_ok O h2
 rw [e]
 dsimp only
 have l := hP.le
 by_cases c : m < N
 ·rw [if_pos c, Nat.max_eq_left m1]
  obtain ⟨p2, e2, h3, hP2⟩ := bin_ok O (N - m) p' m h hP (by omega)
  exact ⟨p2, e2, hP2.sz, hP2.pm, h3⟩
 ·rw [if_neg c]
  have : m = N := by omega
  subst this
  exact ⟨p', rfl, hP.sz, hP.pm, h⟩
end
end SR
set_option Elab.async false
set_option linter.all false
set_option maxRecDepth 100000
namespace L2
open PySem PySem.Spec PyProof.Rows PySem.W
noncomputable def cxLam (X : Cx) (A : Around) (qual : Str) (scope : Scope) (cl : List (Str × Addr)) (N : List Str) (L f c : Addr) (s : Shared) (H : Hp) (pn : List (Addr × Obj)) : Cx where
 prog := X.prog
 w := X.w
 K := X.K
 mg := X.mg
 base := X.base
 A := A.deeper (envX qual scope L f (.ref c) cl)
 N := N
 s₀ := s
 H₀ := H
 env := envX qual scope L f (.ref c) cl
 outer := X.stack
 stack := envX qual scope L f (.ref c) cl :: X.stack
 ex := []
 fn := fun _ => false
 calm := X.calm
 pn := pn
 xe := fun _ _ => False
noncomputable def stLam (σ : St) (js : List Nat) (v : V) : St := some v :: frV σ js
section
variable {X : Cx} {pins : List (Addr × Obj)} {σ : St} {H : Hp} {s : Shared} {scope : Scope} {N : List Str} {js : List Nat} {cl : List (Str × Addr)} {A : Around} {qual x : Str}
theorem Inv.lam {h1 : Heap} {tk : Nat} {f c : Addr} {v : V} {u : Value} (I : Inv X pins σ H s) (S : CScope X scope N 1 js) (hx : N[0]? = some x) (hl : scope.names.lookup x = some .local)
  (hcl1 : ∀ x c, cl.lookup x = some c → X.env.cells.lookup x = some c) (hcl2 : ∀ y ∈ scope.names, y.2 = .free → ∃ c, cl.lookup y.1 = some c)
  (hA : A.frames = some X.stack) (hd : A.handled = X.A.handled) (r : RelV v u)
  (hns : h1.Ns s.heap.objs.size (fun y => [(x, u)].reverse.lookup y)) (hk : ∀ b o, s.heap.get? b = some o → h1.get? b = some o) :
  Inv (cxLam X A qual scope cl N s.heap.objs.size f c s H (X.pn ++ pins)) [] (stLam σ js v) H { s with heap := h1, toks := tk } := by
 have hxc : ∀ x c, cl.lookup x = some c → c < s.heap.objs.size := fun x c h => by
  obtain ⟨v, q⟩ := I.cell x c (hcl1 x c h)
  exact q.lt
 have noA : ∀ b : Addr, b ∉ (cxLam X A qual scope cl N s.heap.objs.size f c s H (X.pn ++ pins)).ex := fun b z => absurd (show b ∈ ([] : List Addr) from z) (by simp)
 refine ⟨⟨I.ok.mod, S.kind, rfl, rfl, Nat.le_refl _, fun x y c h1 h2 => I.ok.inj x y c (hcl1 x c h1) (hcl1 y c h2), fun y hy => ?_, fun x c h _ => absurd (show false = true from h) (by decide), fun h => ?_, Around.frames_deeper hA, .inr ⟨rfl, rfl⟩, fun b hb => absurd hb (noA b), I.bs,
  Nat.le_trans I.ok.bsz I.sz, fun b o e => noA b, fun b hb => absurd hb (noA b), I.stack, I.stkFree⟩, rfl, I.bare, Un.kept hk, ⟨_, hns, fun i y w e1 e2 e3 => ?_⟩, fun x c h => ?_, I.hok.fresh (Nat.le_refl _), fun x c h => I.freeC x c (hcl1 x c h), fun p hp => ?_, I.hok.kept hk, ?_⟩
 ·have hy : scope.names.lookup y = some .cell ∨ scope.names.lookup y = some .free := hy
  rcases hy with hy | hy
  ·exact absurd rfl (S.nocell _ (lookup_mem hy))
  ·exact hcl2 _ (lookup_mem hy) rfl
 ·exact hd.trans (I.ok.hd h)
 ·cases i with
  | zero =>
   have e1' : N[0]? = some y := e1
   rw [hx] at e1'
   cases e1'
   cases e2
   exact ⟨u, r, .inl ⟨hl, by simp⟩⟩
  | succ d =>
   have e2' : (frV σ js)[d]? = some (some w) := by simpa [stLam] using e2
   unfold frV at e2'
   rw [List.getElem?_map] at e2'
   cases ej : js[d]? with
   | none => rw [ej] at e2'; cases e2'
   | some j =>
    rw [ej] at e2'
    have ev : (σ[j]?).join = some w := Option.some.inj e2'
    have ev' : σ[j]? = some (some w) := by
     cases q : σ[j]? with
     | none => rw [q] at ev; cases ev
     | some z => rw [q] at ev; rw [show z = some w from ev]
    obtain ⟨x', n1, n2, n3⟩ := S.look d j ej
    have : x' = y := by
     have e1' : N[d + 1]? = some y := e1
     rw [Nat.add_comm 1 d, e1'] at n1
     exact (Option.some.inj n1).symm
    subst this
    obtain ⟨m, hn, hl⟩ := I.loc
    have hkx := S.frees _ (lookup_mem n3) rfl
    have hvis : Vis X.env.scope x' := by
     rcases hkx with q | q
     ·exact .inr (.inl q)
     ·exact .inr (.inr q)
    obtain ⟨u, r, l⟩ := hl j x' w n2 ev' hvis
    refine ⟨u, r, ?_⟩
    obtain ⟨c, hc⟩ := hcl2 _ (lookup_mem n3) rfl
    rcases l with ⟨l1, _⟩ | ⟨l1, c', l2, l3⟩
    ·rcases hkx with q | q
     ·exact absurd (l1.symm.trans q) (by decide)
     ·exact absurd (l1.symm.trans q) (by decide)
    ·have : c' = c := Option.some.inj (l2.symm.trans (hcl1 _ c hc))
     subst this
     obtain ⟨o, ho, hd⟩ := l3
     exact .inr ⟨.inr n3, c', hc, o, hk _ o ho, hd⟩
 ·obtain ⟨v, o, ho, hd⟩ := I.cell x c (hcl1 x c h)
  exact ⟨v, o, hk _ o ho, hd⟩
 ·have hp' : p ∈ X.pn ++ pins := by simpa [cxLam] using hp
  obtain ⟨e, n, ne, nf, d⟩ := I.pin p hp'
  refine ⟨hk _ _ e, n, Nat.ne_of_lt (Heap.lt_size e), fun z => ?_, d⟩
  exact (List.mem_cons.mp (I.stkSub _ z)).elim ne nf
 ·show (stLam σ js v).length = N.length
  unfold stLam frV
  rw [S.len]
  simp
  omega
noncomputable abbrev fLam (name qual : Str) (params : Arguments) (body : Expr) (scope : Scope) (cl : List (Str × Addr)) (pm : Value) (c : Addr) (ct : Value) : Obj := kla_obj name qual params body scope cl pm c ct
theorem lam_call {f c : Addr} {v : V} {u : Value} {name : Str} {params : Arguments} {body : Expr} {pm ct : Value} {te : TE} {Q : VK} (I : Inv X pins σ H s) (S : CScope X scope N 1 js) (hx : N[0]? = some x) (hl : scope.names.lookup x = some .local)
  (hcl1 : ∀ x c, cl.lookup x = some c → X.env.cells.lookup x = some c) (hcl2 : ∀ y ∈ scope.names, y.2 = .free → ∃ c, cl.lookup y.1 = some c)
  (hA : A.frames = some X.stack) (hd : A.handled = X.A.handled) (hroom : A.depth < recursionLimit) (hco : scope.isCoroutine = false) (hgen : scope.isGenerator = false)
  (hbind : ∀ u, bindArgs (kla_fn name qual params body scope cl pm (.ref c) ct) ⟨[u], []⟩ = pure [(x, u)])
  (hf : s.heap.get? f = some (fLam name qual params body scope cl pm c ct)) (hc : s.heap.CodeRec (.ref c) qual) (r : RelV v u)
  (he : ∀ L s H pn, PE (cxLam X A qual scope cl N L f c s H pn) body te) (h : te (stLam σ js v) H Q) :
  wpAny (model X.prog X.w) A (call (.ref f) [u]) (EP X pins σ Q) (fun _ _ => False) s := by
 refine wpAny_call (codeAny_mono (R := fun r s' => match r with | .ok (.ret u) => EP X pins σ Q u s' | _ => False) (kla_callFunE hroom hf rfl hco hgen rfl hc ?_) fun r s' hq => ?_)
 ·rw [hbind u]
  refine wpAny_pure (wpAny_newFunctionEnv S.nocell (by
   intro y hy
   have : y = (x, u) := by simpa using hy
   rw [this]
   exact hl) (fun h₁ hns hsb => ⟨I.nolimit.fresh _ hsb, ?_⟩) S.kind)
  have hk₁ : ∀ b o, s.heap.get? b = some o → h₁.get? b = some o := fun b o e => hsb.extBut b o (Nat.ne_of_lt (Heap.lt_size e)) (Heap.get?_push_of_some _ e)
  have J := Inv.lam (qual := qual) (tk := s.toks + ([(x, u)] : List (Str × Value)).length) (f := f) (c := c) I S hx hl hcl1 hcl2 hA hd r hns hk₁
  show codeAny _ _ (.expr body (envX qual scope s.heap.objs.size f (.ref c) cl)) _ _
  refine kla_codeExpr (wpAny_mono (he _ _ _ _ [] _ _ _ Q J h) (fun v' s' hl => ?_) fun _ _ y => y.elim)
  obtain ⟨w, H', J', rw', q⟩ := hl
  exact I.after ⟨w, H', J'.os, J'.bare, J'.base, J'.hok, rw', q⟩
 ·match r, hq with
  | .ok (.ret u), hq => exact hq
end
end L2
set_option Elab.async false
set_option linter.all false
set_option maxRecDepth 100000
namespace L2
open PySem PySem.Spec PyProof.Rows PySem.W
structure LamB (mg : Str → Option Value) (base : Heap) (c P : Addr) : Prop where
 hd : CodeHd base c P
 bm : base.BuiltinsAt mg P
 ne : mainGlobals ≠ P
 gl : base.Ns mainGlobals mg
noncomputable def tagL (l d : Nat) (q : Str) : Array Value := #[rawInt l, rawInt d, .str q 0]
section
variable {X : Cx} {pins : List (Addr × Obj)} {σ : St} {H : Hp} {s : Shared} {scope : Scope}
theorem Inv.table {h' : Heap} {tk : Nat} {P c : Addr} {l d : Nat} {q : Str} {oc : Obj} {vs : Array Value} {u : Tok} (I : Inv X pins σ H s) (hP : H P = some (.tbl (tagL l d q)))
  (hx : Heap.ExtBut P s.heap h') (hc : s.heap.objs.size ≤ c) (hoc : h'.get? c = some oc) (hd : oc.data = .fields vs) (hv : vs[1]? = some (.str q u))
  (ht : h'.get? P = some (tabObj #[rawInt l, rawInt d, .ref c])) : Inv X pins σ (upd H c (.frz oc (.own 0))) { s with heap := h', toks := tk } := by
 have hcn : H c = none := I.hok.fresh hc
 have neP : ∀ b, H b = none → b ≠ P := fun b e z => by rw [z, hP] at e; cases e
 have nec : ∀ b o, s.heap.get? b = some o → b ≠ c := fun b o e => Nat.ne_of_lt (Nat.lt_of_lt_of_le (Heap.lt_size e) hc)
 have cP : c ≠ P := neP c hcn
 have kp : ∀ b o, s.heap.get? b = some o → b ≠ P → h'.get? b = some o := fun b o e n => hx b o n e
 refine I.step (g' := s.gens) (d' := s.drawn) (ch := []) (fun _ z => absurd z (by simp)) (fun b o _ _ _ e n => kp b o e (neP b n)) (fun b o _ _ _ e n => ⟨o.slots, kp b o e (neP b n)⟩)
  (fun b o _ e n => by rw [upd_ne (nec b o e)]; exact n) (fun b o _ e => ?_) (fun b xs e => by rw [upd_ne (ne_of_none e hcn)]; exact e) (fun b o u e => by rw [upd_ne (ne_of_none e hcn)]; exact e)
  (fun b ps e => ⟨#[], by rw [upd_ne (ne_of_none e hcn), e]; simp⟩) (fun m hm => ?_) (fun b w e => ?_) I.bare
 ·by_cases hb : b = P
  ·exact ⟨_, by rw [hb]; exact ht⟩
  ·exact ⟨o, kp b o e hb⟩
 ·obtain ⟨o, es, ep, ho, r⟩ := hm
  exact ⟨o, es, ep, kp _ o ho (neP _ I.free), r⟩
 ·by_cases hb : b = c
  ·rw [hb, upd_same] at e
   cases e
   rw [hb]
   exact ⟨hoc, oc, hoc⟩
  ·rw [upd_ne hb] at e
   by_cases hbP : b = P
   ·rw [hbP] at e ⊢
    rw [hP] at e
    cases e
    exact ⟨_, ht, .inr ⟨c, oc, rawInt l, rawInt d, q, 0, u, vs, rfl, rfl, by rw [upd_same], hd, hv⟩⟩
   ·refine (I.hok b w e).stay (fun y z hy g => kp y z g ?_) (fun y g => by rw [upd_ne (ne_of_none g hcn)]; exact g) fun y xs g => by rw [upd_ne (ne_of_none g hcn)]; exact g
    rcases hy with rfl | hy
    ·exact hbP
    ·intro z
     rw [z, hP] at hy
     cases hy
theorem lam_make {params : Arguments} {body : Expr} {P c0 : Addr} {pos : Pos} {Q : Value → Shared → Prop} (I : Inv X pins σ H s) (B : LamB X.mg X.base c0 P)
  (hP : H P = some (.tbl (tagL pos.line pos.col (X.env.qual ++ "<lambda>")))) (hcode : X.env.code = .ref c0) (hdef : defaultsOf params X.env = ([], []))
  (hf : ∀ y ∈ scope.names, y.2 = .free → X.env.kindOf y.1 = some .cell ∨ X.env.kindOf y.1 = some .free)
  (h : ∀ cl f c pm ct H1 s1, (∀ x c, cl.lookup x = some c → X.env.cells.lookup x = some c) → (∀ y ∈ scope.names, y.2 = .free → ∃ c, cl.lookup y.1 = some c) →
   Inv X ((f, fLam "<lambda>" (X.env.qual ++ "<lambda>") params body scope cl pm c ct) :: pins) σ H1 s1 → Ext H H1 → (∃ oc vs u, H1 c = some (.frz oc (.own 0)) ∧ oc.data = .fields vs ∧ vs[1]? = some (.str (X.env.qual ++ "<lambda>") u)) →
   Q (.ref f) s1) :
  wpAny (model X.prog X.w) X.A (eval (.Lambda params body scope pos) X.env) Q X.xe s := by
 obtain ⟨cl, ecl, h1, h2⟩ := closureFor_ok (scope := scope) (env := X.env) fun y hy e => I.ok.has y.1 (hf y hy e)
 have hB := B.bm.keeps I.bk
 have hG := B.gl.keeps I.bk
 have hC := B.hd.keeps I.bk
 obtain ⟨qs, et, z⟩ := (show ObjOk X.prog X.w H s.heap P (.tbl _) from I.hok P _ hP)
 -- the pin of the function's object
 have pin : ∀ {H1 : Hp} {h' : Heap} {tk : Nat} {o : Obj}, Inv X pins σ H1 { s with heap := h', toks := tk } → o.isFreed = false → (∀ v, o.data ≠ .cell v) → Inv X ((h'.objs.size, o) :: pins) σ H1 { s with heap := h'.push o, toks := tk } := fun {H1 h' tk o} J hr hd => by
  have J2 : Inv X pins σ H1 { s with heap := h'.push o, toks := tk } := J.kept (t' := tk) fun b u e => Heap.get?_push_of_some _ e
  refine J2.pins_of fun p hp => ?_
  rcases List.mem_cons.mp hp with rfl | hp
  ·exact ⟨Heap.get?_push_size _ hr, J.hok.fresh (Nat.le_refl _), Nat.ne_of_gt J.lt, J.nofs (Nat.le_refl _), hd⟩
  ·exact J2.pin p (List.mem_append_right _ hp)
 refine kla_eval hdef ?_
 rcases z with rfl | ⟨c, oc, l, d, q, t, u, vs, e1, rfl, e3, e4, e5⟩
 ·refine kla_makeFunction (mg := X.mg) ecl I.ok.glob hG hcode hC et trivial rfl B.ne hB fun c' ctv h' tk hx hge hlt hrec htb => ?_
  obtain ⟨c₂, oc, vs, t, e2, hoc, hd, hv⟩ := hrec
  cases e2
  have J := I.table (tk := tk) hP hx hge hoc hd hv (by simpa using htb)
  refine h cl _ c' _ ctv _ _ h1 h2 (pin J rfl fun v z => by cases z) (fun b o e => by rw [upd_ne (ne_of_none e (I.hok.fresh hge))]; exact e) ⟨oc, vs, t, by rw [upd_same], hd, hv⟩
 ·have e1' : tagL pos.line pos.col (X.env.qual ++ "<lambda>") = #[l, d, .str q t] := e1
  obtain ⟨rfl, rfl, rfl, rfl⟩ : l = rawInt pos.line ∧ d = rawInt pos.col ∧ q = X.env.qual ++ "<lambda>" ∧ t = 0 := by
   have := congrArg Array.toList e1'
   simp only [tagL, List.cons.injEq, Value.str.injEq] at this
   exact ⟨this.1.symm, this.2.1.symm, this.2.2.1.1.symm, this.2.2.1.2.symm⟩
  refine kla_makeFunctionHit (mg := X.mg) (cv := .ref c) ecl I.ok.glob hG hcode hC et trivial (by simp [codeAmong, rawInt]) hB fun ctv h' tk hk hsz => ?_
  have J := I.kept (t' := tk) hk
  exact h cl _ c _ ctv _ _ h1 h2 (pin J rfl fun v z => by cases z) (fun b o e => e) ⟨oc, vs, u, e3, e4, e5⟩
end
end L2
set_option Elab.async false
set_option linter.all false
set_option maxRecDepth 100000
namespace SR
open PySem PySem.W PyProof.Rows
noncomputable def AskIn (N : Nat) {α : Type} : KasT α → (α → Prop) → Prop
 | .ret a, R => R a
 | .ask i j k, R => i < N ∧ j < N ∧ ∀ b, AskIn N (k b) R
theorem AskIn.mono {N : Nat} {α : Type} {R R' : α → Prop} (h : ∀ a, R a → R' a) : ∀ {t : KasT α}, AskIn N t R → AskIn N t R'
 | .ret _, q => h _ q
 | .ask _ _ _, q => ⟨q.1, q.2.1, fun b => AskIn.mono h (q.2.2 b)⟩
theorem AskIn.bind {N : Nat} {α β : Type} {f : α → KasT β} {R : β → Prop} : ∀ {t : KasT α}, AskIn N t (fun a => AskIn N (f a) R) → AskIn N (t.bind f) R
 | .ret _, q => q
 | .ask _ _ _, q => ⟨q.1, q.2.1, fun b => AskIn.bind (q.2.2 b)⟩
theorem kasWp_ev {lt : Nat → Nat → Bool} {N : Nat} {cmp : Nat → Nat → (Bool → Shared → Prop) → Shared → Prop} {s : Shared} (hc : ∀ i j C, i < N → j < N → C (lt i j) s → cmp i j C s) {α : Type} {Q : α → Shared → Prop} {R : α → Prop} :
  ∀ (t : KasT α), AskIn N t R → Q (evT lt t) s → t.kasWp cmp Q s
 | .ret _, _, h => h
 | .ask i j k, q, h => hc i j _ q.1 q.2.1 (kasWp_ev hc (k (lt i j)) (q.2.2 _) h)
noncomputable def Bn (N : Nat) (p : Array Nat) : Prop := ∀ i, p.getD i 0 < N
theorem Bn.pos {N : Nat} {p : Array Nat} (h : Bn N p) : 0 < N := Nat.lt_of_le_of_lt (Nat.zero_le _) (h 0)
theorem Bn.of {N : Nat} {p : Array Nat} (hN : 0 < N) (h : ∀ x ∈ p, x < N) : Bn N p := fun i => by
 by_cases hi : i < p.size
 ·have e : p.getD i 0 = p[i] := by simp [Array.getD, hi]
  rw [e]
  exact h _ (Array.getElem_mem hi)
 ·have e : p.getD i 0 = 0 := by simp [Array.getD, hi]
  rw [e]
  exact hN
theorem Bn.mem {N : Nat} {p : Array Nat} (h : Bn N p) : ∀ x ∈ p, x < N := fun x hx => by
 obtain ⟨i, hi, rfl⟩ := Array.mem_iff_getElem.mp hx
 have := h i
 have e : p.getD i 0 = p[i] := by simp [Array.getD, hi]
 rwa [e] at this
theorem Bn.perm {N : Nat} {p q : Array Nat} (h : Bn N p) (e : q.Perm p) : Bn N q := .of h.pos fun x hx => h.mem x (e.mem_iff.mp hx)
theorem Bn.rev {N : Nat} {p : Array Nat} (h : Bn N p) (i j : Nat) : Bn N (kas_rev p i j) := h.perm (mirror_perm _ _ _ _)
section
variable {N : Nat}
theorem ask_asc {p : Array Nat} (h : Bn N p) : ∀ f n : Nat, AskIn N (kas_asc p f n) fun _ => True
 | 0, _ => trivial
 | f + 1, n => ⟨h _, h _, fun b => by
  cases b
  ·exact ask_asc h f (n + 1)
  ·trivial⟩
theorem ask_desc : ∀ (f : Nat) (p : Array Nat) (n q : Nat), Bn N p → AskIn N (kas_desc f p n q) fun r => Bn N r.1
 | 0, p, n, q, h => h
 | f + 1, p, n, q, h => ⟨h _, h _, fun b => by
  cases b
  ·exact ⟨h _, h _, fun d => by
    cases d
    ·exact ask_desc f p (n + 1) (q + 1) h
    ·exact h⟩
  ·show AskIn N (if q > 0 then _ else _) _
   by_cases c : q > 0
   ·rw [if_pos c]
    exact ask_desc f _ _ _ (h.rev _ _)
   ·rw [if_neg c]
    exact ask_desc f _ _ _ h⟩
theorem ask_tail3 {n nrem : Nat} {p : Array Nat} (h : Bn N p) : AskIn N (kas_tail3 n nrem p) fun r => Bn N r.2 :=
 AskIn.bind ((ask_asc (h.rev _ _) _ _).mono fun _ _ => h.rev _ _)
theorem ask_descPart {n nrem : Nat} {p : Array Nat} (h : Bn N p) : AskIn N (kas_descPart n nrem p) fun r => Bn N r.2 :=
 AskIn.bind ((ask_desc _ _ _ _ h).mono fun r hr => by
  by_cases c : r.2.2 > 0
  ·rw [if_pos c]
   exact ask_tail3 (hr.rev _ _)
  ·rw [if_neg c]
   exact ask_tail3 hr)
theorem ask_count {nrem : Nat} {p : Array Nat} (h : Bn N p) : AskIn N (kas_count nrem p) fun r => Bn N r.2 :=
 AskIn.bind ((ask_asc h _ _).mono fun n _ => by
  by_cases c : (n == nrem) = true
  ·rw [if_pos c]
   exact h
  ·rw [if_neg c]
   by_cases c2 : n > 1
   ·rw [if_pos c2]
    exact ⟨h _, h _, fun b => by
     cases b
     ·exact ask_descPart (h.rev _ _)
     ·exact h⟩
   ·rw [if_neg c2]
    exact ask_descPart h)
theorem ask_place {p : Array Nat} (h : Bn N p) (k : Nat) : ∀ f l r : Nat, AskIn N (kas_place p k f l r) fun _ => True
 | 0, _, _ => trivial
 | f + 1, l, r => by
  unfold kas_place
  by_cases c : l ≥ r
  ·rw [if_pos c]
   trivial
  ·rw [if_neg c]
   exact ⟨h _, h _, fun b => by
    cases b
    ·exact ask_place h k f _ _
    ·exact ask_place h k f _ _⟩
theorem ask_bin : ∀ (f : Nat) (p : Array Nat) (k : Nat), Bn N p → AskIn N (kas_bin f p k) fun _ => True
 | 0, _, _, _ => trivial
 | f + 1, p, k, h => AskIn.bind ((ask_place h k _ _ _).mono fun l _ => ask_bin f _ _ (h.perm (bubble_perm _ _ _)))
theorem ask_sort (hN : 0 < N) : AskIn N (kas_sort N) fun _ => True := by
 have h0 : Bn N (List.toArray (List.range N)) := .of hN fun x hx => by simpa using hx
 refine AskIn.bind ((ask_count h0).mono fun r hr => ?_)
 by_cases c : r.1 < N
 ·rw [if_pos c]
  exact ask_bin _ _ _ hr
 ·rw [if_neg c]
  trivial
end
theorem sort_wp {lt : Nat → Nat → Bool} (O : Ord lt) {N : Nat} (h2 : 2 ≤ N) {cmp : Nat → Nat → (Bool → Shared → Prop) → Shared → Prop} {s : Shared} (hc : ∀ i j C, i < N → j < N → C (lt i j) s → cmp i j C s)
  {Q : Array Nat → Shared → Prop} (h : ∀ p : Array Nat, p.toList.Perm (List.range N) → p.toList.Pairwise (sl lt) → Q p s) : (kas_sort N).kasWp cmp Q s := by
 refine kasWp_ev hc (kas_sort N) (ask_sort (by omega)) ?_
 obtain ⟨p, e, sz, pm, as⟩ := sort_ok O h2
 rw [e]
 refine h p ?_ ?_
 ·have := Array.perm_iff_toList_perm.mp pm
  simpa using this
 ·rw [List.pairwise_iff_getElem]
  intro i j hi hj hij
  have hi' : i < p.size := by simpa using hi
  have hj' : j < p.size := by simpa using hj
  have q := as i j hij (by omega)
  have e1 : g p i = p[i] := by simp [g, Array.getD, hi']
  have e2 : g p j = p[j] := by simp [g, Array.getD, hj']
  rw [e1, e2] at q
  simpa using q
end SR
set_option Elab.async false
set_option linter.all false
set_option maxRecDepth 100000
namespace L2
open PySem PySem.Spec PyProof.Rows PySem.W
section
variable {X : Cx} {pins : List (Addr × Obj)} {σ : St} {H : Hp} {s : Shared}
theorem Inv.fewer {pins' : List (Addr × Obj)} (I : Inv X pins σ H s) (h : ∀ p ∈ pins', p ∈ pins) : Inv X pins' σ H s := I.pins_of fun p hp => I.pin p (List.mem_append_right _ (h p hp))
theorem Inv.more {a : Addr} {o : Obj} (I : Inv X pins σ H s) (e : s.heap.get? a = some o) (n : H a = none) (h1 : a ≠ X.env.locals) (h2 : a ∉ X.fs) (h3 : ∀ v, o.data ≠ .cell v) : Inv X ((a, o) :: pins) σ H s :=
 I.pins_of fun p hp => by
  rcases List.mem_cons.mp hp with rfl | hp
  ·exact ⟨e, n, h1, h2, h3⟩
  ·exact I.pin p (List.mem_append_right _ hp)
structure Ours (X : Cx) (pins : List (Addr × Obj)) (H : Hp) (s : Shared) (a : Addr) : Prop where
 n : H a = none
 ge : X.s₀.heap.objs.size ≤ a
 nl : a ≠ X.env.locals
 nc : ∀ x c, X.env.cells.lookup x = some c → c ≠ a
 np : ∀ p ∈ X.pn ++ pins, p.1 ≠ a
 nf : a ∉ X.fs
theorem Inv.fresh_ours (I : Inv X pins σ H s) {a : Addr} (h : s.heap.objs.size ≤ a) : Ours X pins H s a :=
 ⟨I.hok.fresh h, Nat.le_trans I.sz h, Nat.ne_of_gt (Nat.lt_of_lt_of_le I.lt h), fun x c e z => by
  obtain ⟨v, o, ho, _⟩ := I.cell x c e
  rw [z] at ho
  exact absurd (Nat.lt_of_lt_of_le (Heap.lt_size ho) h) (Nat.lt_irrefl _), fun p hp z => by
  obtain ⟨e, _⟩ := I.pin p hp
  rw [z] at e
  exact absurd (Nat.lt_of_lt_of_le (Heap.lt_size e) h) (Nat.lt_irrefl _), I.nofs h⟩
theorem Inv.set_ours {a : Addr} {h' : Heap} {tk : Nat} (I : Inv X pins σ H s) (O : Ours X pins H s a) (k : ∀ b o, b ≠ a → s.heap.get? b = some o → h'.get? b = some o) : Inv X pins σ H { s with heap := h', toks := tk } :=
 I.turned k O.n O.nl (.inr O.ge) O.nc O.np
theorem Inv.take {a : Addr} {o : HO} (I : Inv X pins σ H s) (O : Ours X pins H s a) (new : ObjOk X.prog X.w (upd H a o) s.heap a o) : Inv X pins σ (upd H a o) s :=
 I.track O.n (fun b u e _ => Nat.ne_of_lt (Nat.lt_of_lt_of_le (Heap.lt_size e) O.ge)) (Ne.symm O.nl) O.nc O.np new
end
noncomputable def Gath (X : Cx) (s : Shared) (u : Value) (xs : List V) : Prop := ∀ (A : Around) (E : Value → Shared → Prop) (Q : List Value → Shared → Prop), A.handled = none →
 (∀ us h' tk, (∀ b o, s.heap.get? b = some o → h'.get? b = some o) → Vals xs us → Q us { s with heap := h', toks := tk }) → wpAny (model X.prog X.w) A (collect u) Q E s
section
variable {X : Cx} {pins : List (Addr × Obj)} {σ : St} {H : Hp} {s : Shared}
theorem gath_list {l : Addr} {xs : List V} (I : Inv X pins σ H s) (hl : SqL X.K H l xs) (h64 : xs.length < 64) : Gath X s (.ref l) xs := by
 intro A E Q _ h
 obtain ⟨its, r, pl, hz⟩ := I.list hl
 have hlen := r.length
 refine collect_list pl.isList (h _ _ _ (fun b o e => ?_) r) (by rw [sizeLine_eq]; omega)
 have hlt := Heap.lt_size e
 rw [Heap.get?_update_ne _ _ _ _ (Nat.ne_of_lt hlt)]
 exact Heap.get?_push_of_some _ e
theorem gath_range {r : Addr} {n : Nat} (I : Inv X pins σ H s) (hr : H r = some (.rng 0 (n : Int))) (hn : n < 64) : Gath X s (.ref r) ((List.range n).map fun j : Nat => V.int (j : Int)) := by
 intro A E Q hh h
 obtain ⟨t, u, v, e⟩ := (show ObjOk X.prog X.w H s.heap r (.rng 0 (n : Int)) from I.hok r _ hr)
 have hsz : Builtin.Range.rangeSize 0 (n : Int) 1 = n := by rw [rangeSize_one]; split <;> omega
 unfold collect
 refine wpAny_bind (wpAny_runValue (codeAny_builtin F.entry_proto_collect ?_))
 rw [Around.under_plainId F.plain_proto_collect _]
 show wpAny _ A.in1 (newList [] >>= fun l => again (.builtin "list.__iadd__" ⟨[l, .ref r], []⟩)) _ _ s
 refine wpAny_bind (wpAny_newObj_type ?_)
 refine wpAny_pure ⟨plainId_quiet F.plain_list_iadd _, codeAny_builtin F.entry_list_iadd ?_⟩
 rw [Around.under_plainId F.plain_list_iadd _]
 have hS : (s.heap.push { cls := .type "list", data := .seq ([] : List Value).toArray }).get? s.heap.objs.size = some { cls := .type "list", data := .seq #[] } := Heap.get?_push_size _ rfl
 show wpAny _ A.in1 (Builtin.List.listExtendWith (.ref s.heap.objs.size) (.ref r) (.ref s.heap.objs.size)) _ _ _
 refine wpAny_extend_range (s := { s with heap := s.heap.push { cls := .type "list", data := .seq ([] : List Value).toArray } }) (n := n) (a := 0) (b := (n : Int)) (c := 1) (t := t) (u := u) (v := v) (R := fun r s' => match r with
  | .ok (.ret v) => wpAny (model X.prog X.w) A (match v with
   | .ref a => do
    let o ← load a
    match o.data with
    | .seq xs _ => pure xs.toList
    | _ => unsupported "internal:collect"
   | _ => unsupported "internal:collect") Q E s'
  | .ok _ => False
  | .error e => E e s') hh (Heap.get?_push_of_some _ e) (small_one (by omega) (by omega) (by omega) (by omega)) hsz (by omega) s.heap.objs.size (.ref s.heap.objs.size) 0 hS fun h' tk acc' c' kp hl hit => ?_
 show wpAny (model X.prog X.w) A (do
   let o ← load s.heap.objs.size
   match o.data with
   | .seq xs _ => pure xs.toList
   | _ => unsupported "internal:collect") Q E { s with heap := h', toks := tk }
 refine wpAny_bind (wpAny_load hl (wpAny_pure (h _ _ _ (fun b o e => kp b o (Nat.ne_of_lt (Heap.lt_size e)) (Heap.get?_push_of_some _ e)) ?_)))
 have key : ∀ (k : Nat), k ≤ n → Vals ((List.range k).map fun j : Nat => V.int (j : Int)) (acc'.toList.take k) := by
  intro k
  induction k with
  | zero => intro _; exact .nil
  | succ k ih =>
   intro hk
   have hlt : k < acc'.size := by rw [hit.1]; omega
   obtain ⟨t, et⟩ := hit.2 k acc'[k] (Array.getElem?_eq_getElem hlt)
   rw [List.range_succ, List.map_append, List.take_succ]
   have e3 : acc'.toList[k]? = some acc'[k] := by rw [Array.getElem?_toList, Array.getElem?_eq_getElem hlt]
   rw [e3]
   refine (ih (by omega)).append (.cons ?_ .nil)
   refine ⟨t, ?_⟩
   rw [et]
   congr 1
   omega
 have := key n (Nat.le_refl _)
 rwa [List.take_of_length_le (by rw [Array.length_toList, hit.1]; exact Nat.le_refl _)] at this
end
end L2
set_option Elab.async false
set_option linter.all false
set_option maxRecDepth 100000
set_option maxHeartbeats 4000000
namespace L2
open PySem PySem.Spec PyProof.Rows PySem.W
noncomputable abbrev lstO (us : List Value) (n : Nat) : Obj := seqObj "list" us.toArray n
section
variable {X : Cx} {pins : List (Addr × Obj)} {σ : St} {H : Hp} {s : Shared} {A : Around}
theorem Ours.pin {a : Addr} {o : Obj} {own : List (Addr × Obj)} {H1 : Hp} {s1 : Shared} (O : Ours X pins H s a) (I : Inv X ((a, o) :: pins) σ H1 s1) : Ours X pins H1 s1 a := by
 obtain ⟨e, n, _⟩ := I.pin (a, o) (List.mem_append_right _ List.mem_cons_self)
 exact ⟨n, O.ge, O.nl, O.nc, O.np, O.nf⟩
structure KeyOf (X : Cx) (A : Around) (f : Value) (Rk : V → V → Hp → Prop) (xs : List V) (pins : List (Addr × Obj)) (σ : St) (H : Hp) : Prop where
 mono : ∀ x k H1 H2, Ext H1 H2 → Rk x k H1 → Rk x k H2
 turn : ∀ own s1 H1 x u, x ∈ xs → RelV x u → Ext H H1 → Inv X (own ++ pins) σ H1 s1 → wpAny (model X.prog X.w) A (call f [u]) (EP X (own ++ pins) σ fun k H2 => Ext H1 H2 ∧ Rk x k H2) (fun _ _ => False) s1
structure KeyLt (X : Cx) (A : Around) (Rk : V → V → Hp → Prop) (xs : List V) (lt : Nat → Nat → Bool) (pins : List (Addr × Obj)) (σ : St) (H : Hp) : Prop where
 ord : SR.Ord lt
 ask : ∀ own s1 H1 kvs ks, Ext H H1 → Inv X (own ++ pins) σ H1 s1 → Paired (fun x k => Rk x k H1) xs kvs → Vals kvs ks → 2 ≤ xs.length →
  ∃ κ, (∀ (Q : SortKind → Shared → Prop) E, Q κ s1 → wpAny (model X.prog X.w) A (keyKind' ks.toArray) Q E s1) ∧ ∀ i j C, i < xs.length → j < xs.length → C (lt i j) s1 → kas_ask X.prog X.w A κ ks i j C s1
noncomputable def SortedBy (lt : Nat → Nat → Bool) (n : Nat) (q : List Nat) : Prop := q.Perm (List.range n) ∧ q.Pairwise (SR.sl lt)
noncomputable def atV (xs : List V) (i : Nat) : V := xs.getD i .non
theorem vals_pick {xs : List V} {us : List Value} (r : Vals xs us) : ∀ {q : List Nat}, (∀ i ∈ q, i < xs.length) → Vals (q.map (atV xs)) (q.map fun i => us.getD i Value.none)
 | [], _ => .nil
 | i :: q, h => by
  have hi := h i List.mem_cons_self
  refine .cons ?_ (vals_pick r fun j hj => h j (List.mem_cons_of_mem _ hj))
  obtain ⟨u, hu, ru⟩ := r.get (List.getElem?_eq_getElem hi)
  have e1 : atV xs i = xs[i] := by simp [atV, hi]
  have e2 : us.getD i Value.none = u := by rw [List.getD_eq_getElem?_getD, hu]; rfl
  rw [e1]
  show RelV _ (us.getD i Value.none)
  rw [e2]
  exact ru
theorem paired_snoc {α β : Type} {F : α → β → Prop} : ∀ {as : List α} {bs : List β} {a : α} {b : β}, Paired F as bs → F a b → Paired F (as ++ [a]) (bs ++ [b])
 | _, _, _, _, .nil, h => .cons h .nil
 | _, _, _, _, .cons r t, h => .cons r (paired_snoc t h)
theorem ksk_inv {f : Value} {a : Addr} {n : Nat} {us : List Value} {xs : List V} {Rk : V → V → Hp → Prop} {lt : Nat → Nat → Bool} {P : PySem.Fin → Shared → Prop} {E : Value → Shared → Prop} (I : Inv X pins σ H s) (O : Ours X pins H s a) (ha : s.heap.get? a = some (lstO us n))
  (r : Vals xs us) (h64 : us.length < 64) (Kf : KeyOf X A f Rk xs pins σ H) (Kl : KeyLt X A Rk xs lt pins σ H)
  (h : ∀ q H1 s1 c, SortedBy lt xs.length q → Ext H H1 → Inv X pins σ H1 s1 → Ours X pins H1 s1 a → s1.heap.get? a = some (lstO (q.map fun i => us.getD i Value.none) c) → P (.done (.ret .none)) s1) :
  wpAny (model X.prog X.w) A (ksk_tree a f false) P E s := by
 have hlen := r.length
 have sz64 : ∀ k, k < 64 → k ≤ sizeLine := fun k hk => by rw [sizeLine_eq]; omega
 have s1 := Heap.SameBut.update s.heap a (Obj.mapSeq fun _ => (#[] : Array Value))
 obtain ⟨e1, ho1⟩ : ∃ e1, (s.heap.update a (Obj.mapSeq fun _ => (#[] : Array Value))).get? a = some (seqObj "list" #[] e1) := ⟨_, get?_update_seq ha fun _ => #[]⟩
 have I1 : Inv X pins σ H { s with heap := s.heap.update a (Obj.mapSeq fun _ => (#[] : Array Value)) } := I.set_ours (tk := s.toks) O fun b o hb e => (s1.2 b hb).trans e
 unfold ksk_tree
 refine wpAny_bind (listItems_at ha rfl ?_)
 refine wpAny_bind (listUpdate_at ha rfl ?_ (by rw [List.size_toArray]; exact sz64 _ h64) (Nat.zero_le _))
 refine wpAny_bind (seqEpoch_at ho1 rfl ?_)
 refine wpAny_bind (wpAny_newTuple ?_ (by show us.length ≤ _; exact sz64 _ h64))
 refine wpAny_bind (wpAny_newList ?_ (Nat.zero_le _))
 refine wpAny_holding ?_
 generalize hh1 : s.heap.update a (Obj.mapSeq fun _ => (#[] : Array Value)) = h1 at *
 have I2 : Inv X pins σ H { s with heap := h1.push (seqObj "tuple" us.toArray 0) } := I1.kept (t' := s.toks) fun b o e => Heap.get?_push_of_some _ e
 have I3 : Inv X pins σ H { s with heap := (h1.push (seqObj "tuple" us.toArray 0)).push (seqObj "list" #[] 0) } := I2.kept (t' := s.toks) fun b o e => Heap.get?_push_of_some _ e
 have Ok := I2.fresh_ours (a := (h1.push (seqObj "tuple" us.toArray 0)).objs.size) (Nat.le_refl _)
 have ek0 : ((h1.push (seqObj "tuple" us.toArray 0)).push (seqObj "list" #[] 0)).get? (h1.push (seqObj "tuple" us.toArray 0)).objs.size = some (seqObj "list" #[] 0) := Heap.get?_push_size _ rfl
 have hka : (h1.push (seqObj "tuple" us.toArray 0)).objs.size ≠ a := by
  have l1 := Heap.lt_size ho1
  rw [size_push']
  exact Nat.ne_of_gt (Nat.lt_succ_of_lt l1)
 have ea3 : ((h1.push (seqObj "tuple" us.toArray 0)).push (seqObj "list" #[] 0)).get? a = some (seqObj "list" #[] e1) := Heap.get?_push_of_some _ (Heap.get?_push_of_some _ ho1)
 show wpAny _ A (ksk_rest a f false us.toArray e1 (.ref (h1.push (seqObj "tuple" us.toArray 0)).objs.size)) P E { s with heap := (h1.push (seqObj "tuple" us.toArray 0)).push (seqObj "list" #[] 0) }
 generalize (h1.push (seqObj "tuple" us.toArray 0)).objs.size = kS at *
 generalize hs3 : ({ s with heap := (h1.push (seqObj "tuple" us.toArray 0)).push (seqObj "list" #[] 0) } : Shared) = s3 at *
 have ek3 : s3.heap.get? kS = some (seqObj "list" #[] 0) := by rw [← hs3]; exact ek0
 have ea3' : s3.heap.get? a = some (seqObj "list" #[] e1) := by rw [← hs3]; exact ea3
 have OkH : Ours X pins H s3 kS := ⟨Ok.n, Ok.ge, Ok.nl, Ok.nc, Ok.np, Ok.nf⟩
 have OaH : Ours X pins H s3 a := ⟨O.n, O.ge, O.nl, O.nc, O.np, O.nf⟩
 -- both lists as pins
 have pin2 : ∀ {H1 : Hp} {s1 : Shared} {ks : List Value} {e : Nat}, Inv X pins σ H1 s1 → H1 a = none → H1 kS = none → s1.heap.get? a = some (seqObj "list" #[] e1) → s1.heap.get? kS = some (lstO ks e) → Inv X ([(kS, lstO ks e), (a, seqObj "list" #[] e1)] ++ pins) σ H1 s1 :=
  fun {H1 s1 ks e} J n1 n2 g1 g2 => (J.more g1 n1 O.nl O.nf fun v z => by cases z).more g2 n2 Ok.nl Ok.nf fun v z => by cases z
 unfold ksk_rest
 refine wpAny_bind (wpAny_rule ?_)
 rw [← Array.forIn_toList]
 simp only [List.toList_toArray]
 refine wpAny_bind (ksk_fold (fun i s' => ∃ H1 kvs ks e, Ext H H1 ∧ Inv X ([(kS, lstO ks e), (a, seqObj "list" #[] e1)] ++ pins) σ H1 s' ∧ Paired (fun x k => Rk x k H1) (xs.take i) kvs ∧ Vals kvs ks) us 0 s3
  ⟨H, [], [], 0, fun _ _ z => z, pin2 (ks := []) I3 OaH.n OkH.n ea3' ek3, (by rw [List.take_zero]; exact .nil), .nil⟩ ?step ?done)
 case step =>
  rintro j u s' hu ⟨H1, kvs, ks, e, x1, J, pr, vk⟩
  simp only [Nat.zero_add] at pr ⊢
  have hj : j < us.length := (List.getElem?_eq_some_iff.mp hu).1
  have hjx : j < xs.length := by omega
  have ruv : RelV xs[j] u := by
   obtain ⟨u', hu', ru⟩ := r.get (List.getElem?_eq_getElem hjx)
   rw [hu] at hu'
   cases hu'
   exact ru
  have lk : ks.length = j := by
   have h1 := pr.length
   have h2 := vk.length
   rw [List.length_take] at h1
   omega
  refine wpAny_bind (wpAny_attempt (wpAny_mono (Kf.turn _ s' H1 xs[j] u (List.getElem_mem hjx) ruv x1 J) (fun k s'' he => ?_) fun _ _ hF => hF.elim))
  obtain ⟨kv, H2, J2, rk, x2, rkk⟩ := he
  obtain ⟨gk, nk, _⟩ := J2.pin (kS, lstO ks e) (List.mem_append_right _ (List.mem_append_left _ List.mem_cons_self))
  obtain ⟨ga, na, _⟩ := J2.pin (a, seqObj "list" #[] e1) (List.mem_append_right _ (List.mem_append_left _ (List.mem_cons_of_mem _ List.mem_cons_self)))
  try dsimp only
  obtain ⟨c2, hc2⟩ : ∃ c2, (s''.heap.update kS (Obj.mapSeq (·.push k))).get? kS = some (seqObj "list" (ks.toArray.push k) c2) := ⟨_, get?_update_seq gk (·.push k)⟩
  rw [List.push_toArray] at hc2
  have sk := Heap.SameBut.update s''.heap kS (Obj.mapSeq (·.push k))
  refine wpAny_bind (listUpdate_at gk rfl ?_ (by rw [List.size_toArray]; exact sz64 _ (by omega)) (Nat.le_trans (Nat.le_of_eq (Array.size_push ..)) (by rw [List.size_toArray, sizeLine_eq]; omega)))
  refine wpAny_pure ⟨rfl, H2, kvs ++ [kv], ks ++ [k], c2, fun b o z => x2 b o (x1 b o z), ?_, ?_, vk.append (.cons rk .nil)⟩
  ·have J3 : Inv X pins σ H2 { s'' with heap := s''.heap.update kS (Obj.mapSeq (·.push k)) } :=
    (J2.fewer fun p hp => List.mem_append_right _ hp).set_ours (tk := s''.toks) (a := kS) ⟨nk, Ok.ge, Ok.nl, Ok.nc, Ok.np, Ok.nf⟩ fun b o hb g => (sk.2 b hb).trans g
   exact pin2 J3 na nk ((sk.2 a (Ne.symm hka)).trans ga) hc2
  ·rw [List.take_add_one, List.getElem?_eq_getElem hjx]
   exact paired_snoc (Paired.mapP pr fun x k q => Kf.mono x k _ _ x2 q) rkk
 case done =>
  rintro s' ⟨H1, kvs, ks, e, x1, J, pr, vk⟩
  rw [List.take_of_length_le (by omega)] at pr
  obtain ⟨gk, nk, _⟩ := J.pin (kS, lstO ks e) (List.mem_append_right _ (List.mem_append_left _ List.mem_cons_self))
  obtain ⟨ga, na, _⟩ := J.pin (a, seqObj "list" #[] e1) (List.mem_append_right _ (List.mem_append_left _ (List.mem_cons_of_mem _ List.mem_cons_self)))
  have lk : ks.length = us.length := by
   have h1 := pr.length
   have h2 := vk.length
   omega
  have hzl : (ks.toArray.zip us.toArray).size = us.length := by simp [lk]
  have J0 := J.fewer (pins' := pins) fun p hp => List.mem_append_right _ hp
  -- the end
  have tail : ∀ (st : SortSt) (q : List Nat), SortedBy lt xs.length q → failedOf st = none → (arrOf st).map (·.2) = List.toArray (q.map fun i => us.getD i Value.none) → wpAny (model X.prog X.w) A (ksk_tail a false e1 (.ref kS) st) P E s' := fun st q hq hfl hout => by
   have ql : q.length = us.length := by
    have := hq.1.length_eq
    rw [List.length_range] at this
    omega
   have t1 := Heap.SameBut.update s'.heap kS (Obj.mapSeq fun _ => (#[] : Array Value))
   have ga1 : (s'.heap.update kS (Obj.mapSeq fun _ => (#[] : Array Value))).get? a = some (seqObj "list" #[] e1) := (t1.2 a (Ne.symm hka)).trans ga
   have t2 := Heap.SameBut.update (s'.heap.update kS (Obj.mapSeq fun _ => (#[] : Array Value))) a (Obj.mapSeq fun _ => (arrOf st).map (·.2))
   obtain ⟨c2, hc2⟩ : ∃ c2, ((s'.heap.update kS (Obj.mapSeq fun _ => (#[] : Array Value))).update a (Obj.mapSeq fun _ => (arrOf st).map (·.2))).get? a = some (seqObj "list" ((arrOf st).map (·.2)) c2) := ⟨_, get?_update_seq ga1 fun _ => (arrOf st).map (·.2)⟩
   unfold ksk_tail
   try dsimp only
   refine wpAny_bind (listUpdate_at gk rfl ?_ (by rw [List.size_toArray]; exact sz64 _ (by omega)) (Nat.zero_le _))
   refine wpAny_bind (wpAny_letGo ?_)
   refine wpAny_bind (seqEpoch_at ga1 rfl ?_)
   refine wpAny_bind (listUpdate_at ga1 rfl ?_ (Nat.zero_le _) (by
    show ((arrOf st).map (·.2)).size ≤ _
    rw [hout, List.size_toArray, List.length_map, sizeLine_eq]
    omega))
   rw [hfl]
   simp only [bne_self_eq_false, Bool.false_eq_true, if_false]
   have J1 : Inv X pins σ H1 { s' with heap := s'.heap.update kS (Obj.mapSeq fun _ => (#[] : Array Value)) } := J0.set_ours (tk := s'.toks) (a := kS) ⟨nk, Ok.ge, Ok.nl, Ok.nc, Ok.np, Ok.nf⟩ fun b o hb g => (t1.2 b hb).trans g
   have J2 : Inv X pins σ H1 { s' with heap := (s'.heap.update kS (Obj.mapSeq fun _ => (#[] : Array Value))).update a (Obj.mapSeq fun _ => (arrOf st).map (·.2)) } := J1.set_ours (tk := s'.toks) (a := a) ⟨na, O.ge, O.nl, O.nc, O.np, O.nf⟩ fun b o hb g => (t2.2 b hb).trans g
   refine wpAny_pure (h q H1 _ c2 hq x1 J2 ⟨na, O.ge, O.nl, O.nc, O.np, O.nf⟩ ?_)
   rw [hout] at hc2 ⊢
   exact hc2
  refine wpAny_bind (listItems_at gk rfl ?_)
  unfold ksk_end
  try dsimp only
  simp only [Bool.false_eq_true, if_false]
  by_cases h2 : us.toArray.size < 2
  ·rw [if_pos h2, if_pos h2]
   rw [List.size_toArray] at h2
   refine wpAny_bind (wpAny_pure ?_)
   rw [StateT.run_pure]
   refine wpAny_bind (wpAny_pure ?_)
   try dsimp only
   refine tail _ (List.range xs.length) ⟨List.Perm.refl _, ?_⟩ rfl ?_
   ·rw [List.pairwise_iff_getElem]
    intro i j hi hj hij
    rw [List.length_range] at hi hj
    omega
   ·show ((ks.toArray.zip us.toArray).map (·.2)) = _
    apply Array.toList_inj.mp
    rw [Array.toList_map, ksk_zip]
    rw [List.map_snd_zip (by simp [lk])]
    rw [hlen]
    apply List.ext_getElem
    ·simp
    ·intro i h1 h3
     simp at h1 h3
     simp [h1]
  ·rw [if_neg h2, if_neg h2]
   rw [List.size_toArray] at h2
   obtain ⟨κ, kk, ka⟩ := Kl.ask _ s' H1 kvs ks x1 J pr vk (by omega)
   refine wpAny_bind (kk _ _ ?_)
   refine wpAny_bind (wpAny_mono (kat_run (κ := κ) (vs := us) (ks := ks) (Q := fun st' s2 => s2 = s' ∧ ∃ q, SortedBy lt xs.length q ∧ failedOf st' = none ∧ (arrOf st').map (·.2) = List.toArray (q.map fun i => us.getD i Value.none))
    (G := fun p s2 => s2 = s' ∧ SortedBy lt xs.length p.toList) lk (by omega) h64 (fun p st' s2 a1 a2 a3 a4 => ⟨a4.1, p.toList, a4.2, a3, kat_snds lk a2⟩) ?_) ?_ fun _ _ e => e)
   ·have := SR.sort_wp (N := us.length) (cmp := kas_ask X.prog X.w A κ ks) (s := s') (Q := fun p s2 => s2 = s' ∧ SortedBy lt xs.length p.toList) Kl.ord (by omega) (fun i j C hi hj hC => ka i j C (by omega) (by omega) hC) fun p hp hs => ⟨rfl, by rw [hlen]; exact hp, hs⟩
    exact this
   ·rintro ⟨⟨⟩, st'⟩ s2 ⟨rfl, q, hq, hf, ho⟩
    exact tail st' q hq hf ho
end
end L2
set_option Elab.async false
set_option linter.all false
set_option maxRecDepth 100000
set_option maxHeartbeats 4000000
namespace L2
open PySem PySem.Spec PyProof.Rows PySem.W
theorem lex_as : ∀ a b : List Int, HT.lexLt a b = true → HT.lexLt b a = false
 | [], [], h => by cases h
 | [], _ :: _, _ => rfl
 | _ :: _, [], h => by cases h
 | x :: a, y :: b, h => by
  rw [HT.lexLt_cons] at h ⊢
  by_cases e : x = y
  ·rw [if_pos e] at h
   rw [if_pos e.symm]
   exact lex_as a b h
  ·rw [if_neg e] at h
   rw [if_neg (Ne.symm e)]
   simp only [decide_eq_true_eq, decide_eq_false_iff_not] at h ⊢
   omega
theorem lex_tr : ∀ a b c : List Int, HT.lexLt b a = false → HT.lexLt c b = false → HT.lexLt c a = false
 | [], _, c, _, _ => by cases c <;> rfl
 | _ :: _, [], _, h, _ => by cases h
 | _ :: _, _ :: _, [], _, h => by cases h
 | x :: a, y :: b, z :: c, h1, h2 => by
  rw [HT.lexLt_cons] at h1 h2 ⊢
  by_cases e1 : y = x
  ·rw [if_pos e1] at h1
   by_cases e2 : z = y
   ·rw [if_pos e2] at h2
    rw [if_pos (e2.trans e1)]
    exact lex_tr a b c h1 h2
   ·rw [if_neg e2] at h2
    rw [if_neg (fun q => e2 (q.trans e1.symm))]
    rw [← e1]
    exact h2
  ·rw [if_neg e1] at h1
   by_cases e2 : z = y
   ·rw [if_neg (fun q => e1 (e2.symm.trans q)), e2]
    exact h1
   ·rw [if_neg e2] at h2
    simp only [decide_eq_false_iff_not] at h1 h2
    rw [if_neg (by omega)]
    simp only [decide_eq_false_iff_not]
    omega
noncomputable def ltI (g : V → Int) (xs : List V) (i j : Nat) : Bool := decide (g (atV xs i) < g (atV xs j))
noncomputable def ltT (g : V → List Int) (xs : List V) (i j : Nat) : Bool := HT.lexLt (g (atV xs i)) (g (atV xs j))
theorem ord_T (g : V → List Int) (xs : List V) : SR.Ord (ltT g xs) := ⟨fun a b h => lex_as _ _ h, fun a b c h1 h2 => lex_tr _ _ _ h1 h2⟩
noncomputable def keyT (g : V → List Int) : V → V → Hp → Prop := fun x k H => ∃ t, k = .ref t ∧ H t = some (.tup ((g x).map V.int))
theorem paired_at {α β : Type} {F : α → β → Prop} : ∀ {as : List α} {bs : List β}, Paired F as bs → ∀ {i : Nat} {a : α}, as[i]? = some a → ∃ b, bs[i]? = some b ∧ F a b
 | _, _, .cons r t, 0, a, h => by cases h; exact ⟨_, rfl, r⟩
 | _, _, .cons r t, i + 1, a, h => paired_at t (i := i) (by simpa using h)
theorem atV_get {xs : List V} {i : Nat} (h : i < xs.length) : xs[i]? = some (atV xs i) := by
 rw [List.getElem?_eq_getElem h]
 simp [atV, h]
section
variable {X : Cx} {A : Around} {xs : List V} {pins : List (Addr × Obj)} {σ : St} {H : Hp}
theorem lex_ints {s : Shared} {b : Bool} {C : Bool → Shared → Prop} : ∀ {us vs : List Value} {ns ms : List Int} {i : Nat}, IntsAre us ns → IntsAre vs ms → ns.length = ms.length → C (HT.lexLt ns ms) s →
  KatLex X.prog X.w A b false C (us.zip vs) i s
 | _, _, _, _, _, .nil, .nil, _, h => h
 | _, _, _, _, i, .cons x t hu, .cons y t' hv, hl, h => by
  have hl' := hl
  simp only [List.length_cons, Nat.add_right_cancel_iff] at hl'
  rw [List.zip_cons_cons]
  refine kat_cons (wpAny_eqBool_int ?_)
  rw [HT.lexLt_cons] at h
  by_cases e : x = y
  ·rw [if_pos e] at h
   have : (x == y) = true := by simpa using e
   rw [this]
   exact kat_yes (lex_ints hu hv hl' h)
  ·rw [if_neg e] at h
   have : (x == y) = false := by simpa using e
   rw [this]
   refine kat_no ?_
   by_cases c : (b && i == 0) = true
   ·rw [c]
    exact oneLt_int h
   ·have c' : (b && i == 0) = false := by simpa using c
    rw [c']
    exact kat_one _ _ (lt_int h)
theorem ints_head {f : Value} {r : List Value} : ∀ {ns : List Int}, IntsAre (f :: r) ns → ∃ n t, f = .int n t
 | _, .cons n t _ => ⟨n, t, rfl⟩
theorem keyLt_T (g : V → List Int) (m : Nat) (hg : ∀ x ∈ xs, (g x).length = m + 1) : KeyLt X A (keyT g) xs (ltT g xs) pins σ H := ⟨ord_T g xs, fun own s1 H1 kvs ks x1 J pr vk h2 => by
 have lk : ks.length = xs.length := by
  have h1 := pr.length
  have h2 := vk.length
  omega
 have tup : ∀ {x k : V} {u : Value}, keyT g x k H1 → RelV k u → ∃ t o its n, u = .ref t ∧ s1.heap.get? t = some o ∧ o.cls = .type "tuple" ∧ o.data = .seq its n ∧ IntsAre its.toList (g x) := by
  intro x k u rk ru
  obtain ⟨t, rfl, et⟩ := rk
  cases ru
  obtain ⟨its, r, ht, hz⟩ := J.tuple (SqT.of et)
  obtain ⟨o, e1, e2, n, e3⟩ := ht
  exact ⟨t, o, _, n, rfl, e1, e2, e3, by simpa using intsAre_of r⟩
 have at' : ∀ i, i < xs.length → ∃ t o its n, ks.getD i Value.none = .ref t ∧ s1.heap.get? t = some o ∧ o.cls = .type "tuple" ∧ o.data = .seq its n ∧ IntsAre its.toList (g (atV xs i)) := fun i hi => by
  obtain ⟨k, ek, rk⟩ := paired_at pr (atV_get hi)
  obtain ⟨u, eu, ru⟩ := vk.get ek
  obtain ⟨t, o, its, n, rfl, q⟩ := tup rk ru
  exact ⟨t, o, its, n, by rw [List.getD_eq_getElem?_getD, eu]; rfl, q⟩
 have firsts : ∀ {xs' kvs' : List V} {ks' : List Value}, (∀ x ∈ xs', (g x).length = m + 1) → Paired (fun x k => keyT g x k H1) xs' kvs' → Vals kvs' ks' → ∃ fs, KatTups s1.heap ks' fs ∧ fs.length = xs'.length ∧ ∀ v ∈ fs, Looks (model X.prog X.w) s1.heap (typeOf v) (.type "int") := by
  intro xs' kvs' ks' hg' p
  induction p generalizing ks' with
  | nil => intro v; cases v; exact ⟨[], .nil, rfl, fun v hv => absurd hv (by simp)⟩
  | cons r t ih =>
   intro v
   cases v with
   | cons a b =>
    obtain ⟨fs, k1, k2, k3⟩ := ih (fun x hx => hg' x (List.mem_cons_of_mem _ hx)) b
    obtain ⟨t, o, its, n, rfl, e1, e2, e3, hi⟩ := tup r a
    have hl := hg' _ List.mem_cons_self
    cases hits : its.toList with
    | nil =>
     have := hi.length
     rw [hits] at this
     simp at this
     omega
    | cons f r' =>
     have hf : its[0]? = some f := by
      rw [← Array.getElem?_toList, hits]
      rfl
     rw [hits] at hi
     refine ⟨f :: fs, KatTups.cons e1 e2 e3 hf k1, by simp [k2], fun v hv => ?_⟩
     rcases List.mem_cons.mp hv with rfl | hv
     ·obtain ⟨n, t, rfl⟩ := ints_head hi
      exact Looks.of_pure rfl
     ·exact k3 v hv
 obtain ⟨fs, k1, k2, k3⟩ := firsts hg pr vk
 refine ⟨tuples' (Value.type "int" != Value.type "tuple"), fun Q E h => kat_kind k1 (by omega) k3 (by decide) h, fun i j C hi' hj' hC => ?_⟩
 obtain ⟨t, o, its, n, e0, e1, e2, e3, hi⟩ := at' i hi'
 obtain ⟨t', o', its', n', f0, f1, f2, f3, hi2⟩ := at' j hj'
 have l1 := hg (atV xs i) (List.mem_of_getElem? (atV_get hi'))
 have l2 := hg (atV xs j) (List.mem_of_getElem? (atV_get hj'))
 show wpAny _ _ (keyLt' (tuples' _) (ks.getD i Value.none) (ks.getD j Value.none)) C _ s1
 rw [e0, f0]
 refine kat_lt e1 e3 f1 f3 ?_
 have hs : decide (its.size < its'.size) = false := by
  have q1 := hi.length
  have q2 := hi2.length
  rw [Array.length_toList] at q1 q2
  simp only [decide_eq_false_iff_not]
  omega
 rw [hs]
 exact lex_ints hi hi2 (by omega) hC⟩
end
end L2
set_option Elab.async false
set_option linter.all false
set_option maxRecDepth 100000
set_option maxHeartbeats 4000000
namespace L2
open PySem PySem.Spec PyProof.Rows PySem.W
noncomputable def SrcV (K : PySem.W.Frag) (H : Hp) (a : Addr) (xs : List V) : Prop := SqL K H a xs ∨ ∃ n : Nat, H a = some (.rng 0 (n : Int)) ∧ xs = (List.range n).map fun j : Nat => V.int (j : Int)
noncomputable def tSortKI (K : PySem.W.Frag) (P : Addr) (tag : Array Value) (js : List Nat) (te tk : TE) : TE := fun σ H Q => te σ H fun v H1 => ∃ a xs, ∃ g : V → Int, v = .ref a ∧ SrcV K H1 a xs ∧ xs.length < 64 ∧ H1 P = some (.tbl tag) ∧
 (∀ H2 x, Ext H1 H2 → x ∈ xs → tk (stLam σ js x) H2 fun k H3 => Ext H2 H3 ∧ k = .int (g x)) ∧ ∀ D H2 q, Ext H1 H2 → H1 D = none → SortedBy (ltI g xs) xs.length q → H2 D = some (.lst (q.map (atV xs))) → Q (.ref D) H2
noncomputable def tSortKT (K : PySem.W.Frag) (P : Addr) (tag : Array Value) (js : List Nat) (te tk : TE) : TE := fun σ H Q => te σ H fun v H1 => ∃ a xs, ∃ (g : V → List Int) (m : Nat), v = .ref a ∧ SrcV K H1 a xs ∧ xs.length < 64 ∧ (∀ x ∈ xs, (g x).length = m + 1) ∧ H1 P = some (.tbl tag) ∧
 (∀ H2 x, Ext H1 H2 → x ∈ xs → tk (stLam σ js x) H2 fun k H3 => Ext H2 H3 ∧ ∃ t, k = .ref t ∧ H3 t = some (.tup ((g x).map V.int))) ∧ ∀ D H2 q, Ext H1 H2 → H1 D = none → SortedBy (ltT g xs) xs.length q → H2 D = some (.lst (q.map (atV xs))) → Q (.ref D) H2
section
variable {X : Cx} {K : PySem.W.Frag} {k : Nat} {e body : Expr} {te tk : TE} {p pos lpos kpos : Pos} {scope : Scope} {params : Arguments} {N : List Str} {js : List Nat} {x : Str} {c0 P : Addr} {tag : Array Value}
theorem srcV_gath {pins : List (Addr × Obj)} {σ : St} {H : Hp} {s : Shared} {a : Addr} {xs : List V} (I : Inv X pins σ H s) (h : SrcV X.K H a xs) (h64 : xs.length < 64) : Gath X s (.ref a) xs := by
 rcases h with h | ⟨n, h, rfl⟩
 ·exact gath_list I h h64
 ·exact gath_range I h (by simpa using h64)
theorem sorted_inv {pins : List (Addr × Obj)} {σ : St} {H : Hp} {s : Shared} {f a : Addr} {xs : List V} {Rk : V → V → Hp → Prop} {lt : Nat → Nat → Bool} {Q : Value → Shared → Prop} {E : Value → Shared → Prop} (hc : X.calm = true) (I : Inv X pins σ H s) (hs : SrcV X.K H a xs) (h64 : xs.length < 64)
  (Kf : KeyOf X X.A.in1.in1 (.ref f) Rk xs pins σ H) (Kl : KeyLt X X.A.in1.in1 Rk xs lt pins σ H)
  (h : ∀ D q H1 s1, SortedBy lt xs.length q → Ext H H1 → H D = none → Inv X pins σ (upd H1 D (.lst (q.map (atV xs)))) s1 → Q (.ref D) s1) :
  wpAny (model X.prog X.w) X.A (call (.builtin "sorted") [.ref a] [(Str.ofString "key", .ref f)]) Q E s := by
 refine call_function_entry_kw kind_sorted plain_sorted entry_sorted (ksk_s1 _ _) ?_
 unfold Builtin.«sorted»
 refine wpAny_bind (m := checkCount "sorted" 1 1 _) (wpAny_pure ?_)
 refine wpAny_bind (srcV_gath I hs h64 _ _ _ (I.ok.hd hc) fun us h' tk kp r => ?_)
 have hlen := r.length
 refine wpAny_bind (wpAny_newList ?_ (by rw [sizeLine_eq]; omega))
 have I1 : Inv X pins σ H { s with heap := h', toks := tk } := I.kept kp
 have I2 : Inv X pins σ H { s with heap := h'.push (lstO us 0), toks := tk } := I1.kept (t' := tk) fun b o e => Heap.get?_push_of_some _ e
 have OD := I1.fresh_ours (a := h'.objs.size) (Nat.le_refl _)
 have eD : (h'.push (lstO us 0)).get? h'.objs.size = some (lstO us 0) := Heap.get?_push_size _ rfl
 have OD2 : Ours X pins H { s with heap := h'.push (lstO us 0), toks := tk } h'.objs.size := ⟨OD.n, OD.ge, OD.nl, OD.nc, OD.np, OD.nf⟩
 refine wpAny_bind (wpAny_holding (wpAny_call_entry_kw slot_list_sort ⟨_, eD, rfl⟩ entry_list_sort ?body (ksk_l1 _ _)))
 case body =>
  rw [ksk_t1]
  refine ksk_inv I2 OD2 eD r (by omega) Kf Kl fun q H1 s1 c hq x1 J O ga => ⟨_, rfl, ?_⟩
  refine wpAny_pure ⟨_, rfl, h _ q H1 s1 hq x1 OD.n (J.take O ?_)⟩
  have hb : ∀ i ∈ q, i < xs.length := fun i hi => by
   have := hq.1.mem_iff.mp hi
   simpa using this
  refine ⟨?_, _, c, vals_pick r hb, ga⟩
  rw [List.length_map, hq.1.length_eq, List.length_range, sizeLine_eq]
  omega
theorem lam_key {Rk : V → V → Hp → Prop} {xs : List V} {pins : List (Addr × Obj)} {σ : St} {H1 : Hp} {f c : Addr} {cl : List (Str × Addr)} {pm ct : Value} {qual : Str} (hr : Room (k + 1) X.A) (S : CScope X scope N 1 js) (hx : N[0]? = some x) (hl : scope.names.lookup x = some .local)
  (hco : scope.isCoroutine = false) (hgen : scope.isGenerator = false) (hbind : ∀ u, bindArgs (kla_fn "<lambda>" qual params body scope cl pm (.ref c) ct) ⟨[u], []⟩ = pure [(x, u)])
  (hb : ∀ L s H pn, PE (cxLam X X.A.in1.in1 qual scope cl N L f c s H pn) body tk) (h1 : ∀ x c, cl.lookup x = some c → X.env.cells.lookup x = some c) (h2 : ∀ y ∈ scope.names, y.2 = .free → ∃ c, cl.lookup y.1 = some c)
  (hc : ∃ oc vs u, H1 c = some (.frz oc (.own 0)) ∧ oc.data = .fields vs ∧ vs[1]? = some (.str qual u)) (mono : ∀ x k H1 H2, Ext H1 H2 → Rk x k H1 → Rk x k H2)
  (h : ∀ H2 x, Ext H1 H2 → x ∈ xs → tk (stLam σ js x) H2 fun k H3 => Ext H2 H3 ∧ Rk x k H3) : KeyOf X X.A.in1.in1 (.ref f) Rk xs ((f, fLam "<lambda>" qual params body scope cl pm c ct) :: pins) σ H1 :=
 ⟨mono, fun own s1 H2 v u hv ru x1 J => by
  obtain ⟨oc, vs, t, e1, e2, e3⟩ := hc
  obtain ⟨gf, _⟩ := J.pin (f, fLam "<lambda>" qual params body scope cl pm c ct) (List.mem_append_right _ (List.mem_append_right _ List.mem_cons_self))
  have hoc := (show ObjOk X.prog X.w H2 s1.heap c (.frz oc (.own 0)) from J.hok c _ (x1 c _ e1)).1
  exact lam_call J S hx hl h1 h2 J.ok.frames rfl (by have := hr.dp; show X.A.depth < _; omega) hco hgen hbind gf ⟨c, oc, vs, t, rfl, hoc, e2, e3⟩ ru hb (h H2 v x1 hv)⟩
theorem sortK_tail {Rk : V → V → Hp → Prop} {lt : Nat → Nat → Bool} {pins : List (Addr × Obj)} {σ : St} {H1 : Hp} {s1 : Shared} {a : Addr} {xs : List V} {Q : VK} (hc : X.calm = true) (hr : Room (k + 1) X.A)
  (B : LamB X.mg X.base c0 P) (hcode : X.env.code = .ref c0) (hdef : defaultsOf params X.env = ([], [])) (S : CScope X scope N 1 js) (hx : N[0]? = some x) (hl : scope.names.lookup x = some .local) (hco : scope.isCoroutine = false) (hgen : scope.isGenerator = false)
  (hbind : ∀ cl pm c ct u, bindArgs (kla_fn "<lambda>" (X.env.qual ++ "<lambda>") params body scope cl pm (.ref c) ct) ⟨[u], []⟩ = pure [(x, u)]) (htag : tag = tagL lpos.line lpos.col (X.env.qual ++ "<lambda>"))
  (hb : ∀ cl L f c s H pn, PE (cxLam X X.A.in1.in1 (X.env.qual ++ "<lambda>") scope cl N L f c s H pn) body tk)
  (I1 : Inv X pins σ H1 s1) (hs : SrcV X.K H1 a xs) (h64 : xs.length < 64) (hP : H1 P = some (.tbl tag)) (mono : ∀ x k H1 H2, Ext H1 H2 → Rk x k H1 → Rk x k H2) (kl : ∀ A pins σ H, KeyLt X A Rk xs lt pins σ H)
  (hk : ∀ H2 x, Ext H1 H2 → x ∈ xs → tk (stLam σ js x) H2 fun k H3 => Ext H2 H3 ∧ Rk x k H3) (fin : ∀ D H2 q, Ext H1 H2 → H1 D = none → SortedBy lt xs.length q → H2 D = some (.lst (q.map (atV xs))) → Q (.ref D) H2) :
  wpAny (model X.prog X.w) X.A (evalAll [do let v ← eval (.Lambda params body scope lpos) X.env; standAt pos; pure v]) (fun ks s2 => wpAny (model X.prog X.w) X.A (call (.builtin "sorted") [.ref a] ([Str.ofString "key"].zip ks)) (EP X pins σ Q) X.xe s2) X.xe s1 := by
 refine wpAny_evalAll_cons (wpAny_bind (lam_make I1 B (by rw [hP, htag]) hcode hdef S.frees fun cl f c pm ct H2 s2 h1 h2 I2 x2 hcr => ?_))
 refine wpAny_bind (wpAny_standAt (wpAny_pure (wpAny_evalAll_nil ?_)))
 show wpAny _ _ (call (.builtin "sorted") [.ref a] [(Str.ofString "key", .ref f)]) _ _ s2
 have hs2 : SrcV X.K H2 a xs := by
  rcases hs with hs | ⟨n, hs, e⟩
  ·refine .inl ?_
   rcases hs with (z | ⟨o, z⟩) | z
   ·exact .inl (.inl (x2 _ _ z))
   ·exact .inl (.inr ⟨o, x2 _ _ z⟩)
   ·exact .inr z
  ·exact .inr ⟨n, x2 _ _ hs, e⟩
 refine sorted_inv hc I2 hs2 h64 (lam_key hr S hx hl hco hgen (hbind cl pm c ct) (fun L s H pn => hb cl L f c s H pn) h1 h2 hcr mono fun H3 x x3 hx => hk H3 x (fun b o g => x3 b o (x2 b o g)) hx) (kl _ _ _ _) fun D q H3 s3 hq x3 hD J => ?_
 refine ⟨.ref D, _, J.fewer fun p hp => List.mem_cons_of_mem _ hp, rfl, fin D _ q ?_ ?_ hq (upd_same ..)⟩
 ·intro b o g
  have g2 := x2 b o g
  rw [upd_ne (ne_of_none g2 hD)]
  exact x3 b o g2
 ·cases z : H1 D with
  | none => rfl
  | some o =>
   rw [x2 D o z] at hD
   cases hD
variable (hK : X.K = K) (hc : X.calm = true) (hg : Gl X "sorted") (hm : X.mg "sorted" = none) (hv : bootBuiltins "sorted" = some (.builtin "sorted")) (hr : Room (k + 1) X.A)
  (B : LamB X.mg X.base c0 P) (hcode : X.env.code = .ref c0) (hdef : defaultsOf params X.env = ([], [])) (S : CScope X scope N 1 js) (hx : N[0]? = some x) (hl : scope.names.lookup x = some .local) (hco : scope.isCoroutine = false) (hgen : scope.isGenerator = false)
  (hbind : ∀ cl pm c ct u, bindArgs (kla_fn "<lambda>" (X.env.qual ++ "<lambda>") params body scope cl pm (.ref c) ct) ⟨[u], []⟩ = pure [(x, u)]) (htag : tag = tagL lpos.line lpos.col (X.env.qual ++ "<lambda>"))
  (he : PE X e te) (hb : ∀ cl L f c s H pn, PE (cxLam X X.A.in1.in1 (X.env.qual ++ "<lambda>") scope cl N L f c s H pn) body tk)
  (hst : starEach [e] X.env = [(false, eval e X.env)]) (hkw : keywordEach [⟨some (Str.ofString "key"), .Lambda params body scope lpos, kpos⟩] X.env = [(some (Str.ofString "key"), eval (.Lambda params body scope lpos) X.env)])
include hK hc hg hm hv hr B hcode hdef S hx hl hco hgen hbind htag he hb hst hkw
theorem pe_sortKT : PE X (.Call (.Name "sorted" p) [e] [⟨some (Str.ofString "key"), .Lambda params body scope lpos, kpos⟩] pos) (tSortKT K P tag js te tk) := by
 subst hK
 intro pins s σ H Q I h
 refine wpAny_Call_Name_kw (ld_blt I hg hm hv ?_)
 refine callWith_kw (e := e) (rest := []) ?_ (by rw [hst]; rfl) (by rw [hst]; rfl) (by rw [hkw]; rfl) (by rw [hkw]; rfl)
 rw [hst]
 show wpAny _ _ (spliced ((false, eval e X.env) :: [])) _ _ s
 refine Calls.spliced_cons (thn (he pins s σ H _ I h) fun u s1 z => ?_)
 obtain ⟨v, H1, I1, r1, a, xs, g, m, rfl, hs, h64, hg', hP, hk, fin⟩ := z
 cases r1
 refine Calls.spliced_nil ?_
 rw [hkw]
 exact sortK_tail (Rk := keyT g) hc hr B hcode hdef S hx hl hco hgen hbind htag hb I1 hs h64 hP (fun x k H1 H2 x2 ⟨t, e, q⟩ => ⟨t, e, x2 _ _ q⟩) (fun _ _ _ _ => keyLt_T g m hg') hk fin
end
end L2
set_option Elab.async false
set_option linter.all false
set_option maxRecDepth 100000
set_option maxHeartbeats 4000000
namespace L2
open PySem PySem.Spec PyProof.Rows PySem.W
noncomputable def rSortT (K : PySem.W.Frag) : List V → Hp → VK → Prop := fun vs H Q => ∃ (l : Addr) (xs : List V) (g : V → List Int) (m : Nat), vs = [.ref l] ∧ SqL K H l xs ∧ xs.length < 64 ∧ (∀ x ∈ xs, (g x).length = m + 1 ∧ ∃ t, x = .ref t ∧ H t = some (.tup ((g x).map V.int))) ∧
 ∀ D q, H D = none → SortedBy (ltT g xs) xs.length q → Q (.ref D) (upd H D (.lst (q.map (atV xs))))
section
variable {X : Cx} {pins : List (Addr × Obj)} {σ : St} {H : Hp} {s : Shared} {A : Around}
theorem paired_self {α : Type} {F : α → α → Prop} : ∀ {as : List α}, (∀ a ∈ as, F a a) → Paired F as as
 | [], _ => .nil
 | a :: as, h => .cons (h a List.mem_cons_self) (paired_self fun b hb => h b (List.mem_cons_of_mem _ hb))
theorem sort_inv {a : Addr} {n : Nat} {us : List Value} {xs : List V} {lt : Nat → Nat → Bool} {Rk : V → V → Hp → Prop} {P : PySem.Fin → Shared → Prop} {E : Value → Shared → Prop} (I : Inv X pins σ H s) (O : Ours X pins H s a) (ha : s.heap.get? a = some (lstO us n))
  (r : Vals xs us) (h64 : us.length < 64) (hp : ∀ x ∈ xs, Rk x x H) (Kl : KeyLt X A Rk xs lt pins σ H)
  (h : ∀ q s1 c, SortedBy lt xs.length q → Inv X pins σ H s1 → Ours X pins H s1 a → s1.heap.get? a = some (lstO (q.map fun i => us.getD i Value.none) c) → P (.done (.ret .none)) s1) :
  wpAny (model X.prog X.w) A (Builtin.«list.sort» ⟨[.ref a], []⟩) P E s := by
 have hlen := r.length
 have sz64 : ∀ k, k < 64 → k ≤ sizeLine := fun k hk => by rw [sizeLine_eq]; omega
 have s1 := Heap.SameBut.update s.heap a (Obj.mapSeq fun _ => (#[] : Array Value))
 obtain ⟨e1, ho1⟩ : ∃ e1, (s.heap.update a (Obj.mapSeq fun _ => (#[] : Array Value))).get? a = some (seqObj "list" #[] e1) := ⟨_, get?_update_seq ha fun _ => #[]⟩
 have I1 : Inv X pins σ H { s with heap := s.heap.update a (Obj.mapSeq fun _ => (#[] : Array Value)) } := I.set_ours (tk := s.toks) O fun b o hb e => (s1.2 b hb).trans e
 rw [list_sort_plain]
 refine wpAny_bind (listItems_at ha rfl (wpAny_bind (listUpdate_at ha rfl ?_ (by rw [List.size_toArray]; exact sz64 _ h64) (Nat.zero_le _))))
 refine wpAny_bind (seqEpoch_at ho1 rfl (wpAny_bind (wpAny_newTuple (wpAny_bind (wpAny_newList (wpAny_holding ?_) (Nat.zero_le _))) (by show us.length ≤ _; exact sz64 _ h64))))
 generalize hh1 : s.heap.update a (Obj.mapSeq fun _ => (#[] : Array Value)) = h1 at *
 have I2 : Inv X pins σ H { s with heap := h1.push (seqObj "tuple" us.toArray 0) } := I1.kept (t' := s.toks) fun b o e => Heap.get?_push_of_some _ e
 have I3 : Inv X pins σ H { s with heap := (h1.push (seqObj "tuple" us.toArray 0)).push (seqObj "list" #[] 0) } := I2.kept (t' := s.toks) fun b o e => Heap.get?_push_of_some _ e
 have ea3 : ((h1.push (seqObj "tuple" us.toArray 0)).push (seqObj "list" #[] 0)).get? a = some (seqObj "list" #[] e1) := Heap.get?_push_of_some _ (Heap.get?_push_of_some _ ho1)
 show wpAny _ A _ P E { s with heap := (h1.push (seqObj "tuple" us.toArray 0)).push (seqObj "list" #[] 0) }
 generalize hs3 : ({ s with heap := (h1.push (seqObj "tuple" us.toArray 0)).push (seqObj "list" #[] 0) } : Shared) = s3 at *
 have ga : s3.heap.get? a = some (seqObj "list" #[] e1) := by rw [← hs3]; exact ea3
 dsimp only
 -- the end
 have tail : ∀ (st : SortSt) (q : List Nat), SortedBy lt xs.length q → failedOf st = none → (arrOf st).map (·.2) = List.toArray (q.map fun i => us.getD i Value.none) → wpAny (model X.prog X.w) A (do
   let touched := (← seqEpoch a) != e1
   Builtin.List.listUpdate (.ref a) fun _ => (arrOf st).map (·.2)
   if let some e := failedOf st then rule "list.sort.comparison-raised"; throw e
   if touched then rule "list.sort.modified"; raiseError "ValueError" "list modified during sort"
   ret .none) P E s3 := fun st q hq hfl hout => by
  have ql : q.length = us.length := by
   have := hq.1.length_eq
   rw [List.length_range] at this
   omega
  have t2 := Heap.SameBut.update s3.heap a (Obj.mapSeq fun _ => (arrOf st).map (·.2))
  obtain ⟨c2, hc2⟩ : ∃ c2, (s3.heap.update a (Obj.mapSeq fun _ => (arrOf st).map (·.2))).get? a = some (seqObj "list" ((arrOf st).map (·.2)) c2) := ⟨_, get?_update_seq ga fun _ => (arrOf st).map (·.2)⟩
  refine wpAny_bind (seqEpoch_at ga rfl (wpAny_bind (listUpdate_at ga rfl ?_ (Nat.zero_le _) (by
   show ((arrOf st).map (·.2)).size ≤ _
   rw [hout, List.size_toArray, List.length_map, sizeLine_eq]
   omega))))
  rw [hfl]
  simp only [bne_self_eq_false, Bool.false_eq_true, if_false]
  have J2 : Inv X pins σ H { s3 with heap := s3.heap.update a (Obj.mapSeq fun _ => (arrOf st).map (·.2)) } := I3.set_ours (tk := s3.toks) (a := a) ⟨O.n, O.ge, O.nl, O.nc, O.np, O.nf⟩ fun b o hb g => (t2.2 b hb).trans g
  refine wpAny_pure (h q _ c2 hq J2 ⟨O.n, O.ge, O.nl, O.nc, O.np, O.nf⟩ ?_)
  rw [hout] at hc2 ⊢
  exact hc2
 by_cases h2 : us.toArray.size < 2
 ·rw [if_pos h2, if_pos h2]
  rw [List.size_toArray] at h2
  refine wpAny_bind (wpAny_pure ?_)
  rw [StateT.run_pure]
  refine wpAny_bind (wpAny_pure ?_)
  try dsimp only
  refine tail (SortSt.mk' general' (us.toArray.zip us.toArray) #[] 7 none) (List.range xs.length) ⟨List.Perm.refl _, ?_⟩ rfl ?_
  ·rw [List.pairwise_iff_getElem]
   intro i j hi hj hij
   rw [List.length_range] at hi hj
   omega
  ·show ((us.toArray.zip us.toArray).map (·.2)) = _
   apply Array.toList_inj.mp
   rw [Array.toList_map, ksk_zip]
   rw [List.map_snd_zip (by simp)]
   rw [hlen]
   apply List.ext_getElem
   ·simp
   ·intro i h1 h3
    simp at h1 h3
    simp [h1]
 ·rw [if_neg h2, if_neg h2]
  rw [List.size_toArray] at h2
  obtain ⟨κ, kk, ka⟩ := Kl.ask [] s3 H xs us (fun _ _ z => z) I3 (paired_self hp) r (by omega)
  refine wpAny_bind (kk _ _ ?_)
  refine wpAny_bind (wpAny_mono (kat_run (κ := κ) (vs := us) (ks := us) (Q := fun st' s2 => s2 = s3 ∧ ∃ q, SortedBy lt xs.length q ∧ failedOf st' = none ∧ (arrOf st').map (·.2) = List.toArray (q.map fun i => us.getD i Value.none))
   (G := fun p s2 => s2 = s3 ∧ SortedBy lt xs.length p.toList) rfl (by omega) h64 (fun p st' s2 a1 a2 a3 a4 => ⟨a4.1, p.toList, a4.2, a3, kat_snds rfl a2⟩) ?_) ?_ fun _ _ e => e)
  ·exact SR.sort_wp (N := us.length) (cmp := kas_ask X.prog X.w A κ us) (s := s3) (Q := fun p s2 => s2 = s3 ∧ SortedBy lt xs.length p.toList) Kl.ord (by omega) (fun i j C hi hj hC => ka i j C (by omega) (by omega) hC) fun p hp hs => ⟨rfl, by rw [hlen]; exact hp, hs⟩
  ·rintro ⟨⟨⟩, st'⟩ s2 ⟨rfl, q, hq, hf, ho⟩
   exact tail st' q hq hf ho
theorem call_sortT {K : PySem.W.Frag} (hK : X.K = K) (hc : X.calm = true) : CallR X (.builtin "sorted") (rSortT K) := by
 subst hK
 intro pins s σ H vs us0 Q I r0 h
 obtain ⟨l, xs, g, m, rfl, hl, h64, hg, fin⟩ := h
 obtain ⟨u, rfl, rx⟩ := vals1 r0
 cases rx
 refine Calls.call_function_entry kind_sorted plain_sorted entry_sorted (args_sorted1 _) ?_
 unfold Builtin.«sorted»
 refine wpAny_bind (m := checkCount "sorted" 1 1 _) (wpAny_pure ?_)
 refine wpAny_bind (gath_list I hl h64 _ _ _ (I.ok.hd hc) fun us h' tk kp r => ?_)
 have hlen := r.length
 refine wpAny_bind (wpAny_newList ?_ (by rw [sizeLine_eq]; omega))
 have I1 : Inv X pins σ H { s with heap := h', toks := tk } := I.kept kp
 have I2 : Inv X pins σ H { s with heap := h'.push (lstO us 0), toks := tk } := I1.kept (t' := tk) fun b o e => Heap.get?_push_of_some _ e
 have OD := I1.fresh_ours (a := h'.objs.size) (Nat.le_refl _)
 have eD : (h'.push (lstO us 0)).get? h'.objs.size = some (lstO us 0) := Heap.get?_push_size _ rfl
 have OD2 : Ours X pins H { s with heap := h'.push (lstO us 0), toks := tk } h'.objs.size := ⟨OD.n, OD.ge, OD.nl, OD.nc, OD.np, OD.nf⟩
 refine wpAny_bind (wpAny_holding (wpAny_call_entry slot_list_sort ⟨_, eD, rfl⟩ entry_list_sort ?body (args_list_sort _)))
 case body =>
  refine sort_inv (Rk := keyT g) (lt := ltT g xs) I2 OD2 eD r (by omega) (fun x hx => (hg x hx).2) (keyLt_T g m fun x hx => (hg x hx).1) fun q s1 c hq J O ga => ⟨_, rfl, ?_⟩
  refine wpAny_pure ⟨_, rfl, ?_⟩
  have hb : ∀ i ∈ q, i < xs.length := fun i hi => by
   have := hq.1.mem_iff.mp hi
   simpa using this
  refine ⟨.ref _, _, J.take O ?_, rfl, fin _ q OD.n hq⟩
  refine ⟨?_, _, c, vals_pick r hb, ga⟩
  rw [List.length_map, hq.1.length_eq, List.length_range, sizeLine_eq]
  omega
end
end L2
set_option Elab.async false
set_option linter.all false
set_option maxRecDepth 100000
namespace L2
open PySem PySem.Spec PyProof.Rows PySem.W
noncomputable def LamF (K : PySem.W.Frag) (f c : Addr) : Prop := ∃ oc od fd osl, K.lookup f = some ⟨oc, od, .func fd, osl⟩ ∧ fd.code = .ref c
theorem Room.lam {k : Nat} {A : Around} (r : Room (k + 1) A) (env : Env) : Room k (A.in1.in1.deeper env) :=
 ⟨r.hd, by have := r.dp; show A.depth + 1 + 3 * k + 5 < _; omega, by have := r.un; show A.units + 1 + 1 + 3 + 16 * k + 200 < _; omega⟩
section
variable {P : Program} {w : World} {K : PySem.W.Frag} {mg : Str → Option Value} {base : Heap}
theorem okLE {x qual : Str} {st : Stmt} {f c : Addr} {fd : FuncData} {N ps : List Str} {k : Nat} {sp : Sp} (F : Fun K x qual st f fd) (L : LamF K f c) (S : FnScope N ps (defScope st)) (len : ∀ vs H Q E, sp vs H Q E → vs.length = ps.length)
  (hb : ∀ (A : Around) (outer : List Env) (s : Shared) (H : Hp) (vs : List V) (Q : VK) (E : XK), Room k (A.deeper (envOfC qual (defScope st) s.heap.objs.size f (.ref c))) → sp vs H Q E →
   ∃ t, PSs (cxOf (CXE P w) P w K mg base N qual (defScope st) f (.ref c) A outer s H E) (defBody st) t ∧ t { nx := fun _ H' => Q .non H', rt := Q } (start N vs) H) : FnOk P w K mg base (CXE P w) (k + 1) f fd ps sp := by
 obtain ⟨oc, od, kV, doc, pm, an, cdv, ct, osl, e, lk, hcd⟩ := F.ex
 obtain ⟨_, _, _, _, l2, e2⟩ := L
 subst e
 rw [lk] at l2
 cases l2
 have e2' : cdv = .ref c := e2
 subst e2'
 exact fn_of lk hcd S len hb
theorem okLN {x qual : Str} {st : Stmt} {f c : Addr} {fd : FuncData} {N ps : List Str} {k : Nat} {sp : Sp} (F : Fun K x qual st f fd) (L : LamF K f c) (S : FnScope N ps (defScope st)) (len : ∀ vs H Q E, sp vs H Q E → vs.length = ps.length)
  (hb : ∀ (A : Around) (outer : List Env) (s : Shared) (H : Hp) (vs : List V) (Q : VK) (E : XK), Room k (A.deeper (envOfC qual (defScope st) s.heap.objs.size f (.ref c))) → sp vs H Q E →
   ∃ t, PSs (cxOf (CXE P w) P w K mg base N qual (defScope st) f (.ref c) A outer s H E).nox (defBody st) t ∧ t { nx := fun _ H' => Q .non H', rt := Q } (start N vs) H) : FnOk P w K mg base (CXE P w) (k + 1) f fd ps sp :=
 okLE F L S len fun A outer s H vs Q E hr h => by
  obtain ⟨t, h1, h2⟩ := hb A outer s H vs Q E hr h
  exact ⟨t, h1.nox, h2⟩
structure BaseT (mg : Str → Option Value) (base : Heap) (Ts : List (Addr × Array Value)) : Prop where
 bm : ∃ bm o, mg "__builtins__" = some (.ref bm) ∧ bm ≠ builtinsNs ∧ base.get? bm = some o ∧ o.cls = .type "module" ∧ o.dict = some builtinsNs ∧ o.data = .plain
 hid : ∀ z ∈ Ts, base.get? z.1 = none
structure TabK (K : PySem.W.Frag) (x : Str) (f c P : Addr) : Prop where
 fn : PySem.W.nsIn K mainGlobals x = some (some (.ref f))
 lf : LamF K f c
 hd : ∃ o vs file tf flags tg inF text tt, K.lookup c = some o ∧ o.cls = .type "code" ∧ o.data = .fields vs ∧ vs[11]? = some (.ref P) ∧ vs.getD 11 .none = .ref P ∧ vs.getD 18 .none = .str file tf ∧
  vs.getD 7 .none = .int flags tg ∧ vs.getD 9 .none = .bool inF ∧ vs.getD 10 .none = .int text tt
 ne : c ≠ P
 no : K.lookup P = none
theorem lamB_of {Ts : List (Addr × Array Value)} {x : Str} {f c P : Addr} {tag : Array Value} (T : TabK K x f c P) (X : K.In base) (G : base.Ns mainGlobals mg) (B : BaseT mg base Ts) (hm : (P, tag) ∈ Ts) : LamB mg base c P := by
 obtain ⟨o, vs, file, tf, flags, tg, inF, text, tt, e1, e2⟩ := T.hd
 have hP : base.get? P = none := B.hid _ hm
 obtain ⟨bm, ob, b1, b2, b3, b4, b5, b6⟩ := B.bm
 obtain ⟨og, es, ep, g1, g2, _⟩ := id G
 refine ⟨⟨o, vs, file, tf, flags, tg, inF, text, tt, X _ _ e1, e2.1, e2.2.1, e2.2.2.1, e2.2.2.2.1, e2.2.2.2.2.1, e2.2.2.2.2.2.1, e2.2.2.2.2.2.2.1, e2.2.2.2.2.2.2.2, T.ne⟩, ⟨bm, ob, b1, b2, fun z => ?_, fun z => ?_, b3, b4, b5, b6⟩, fun z => ?_, G⟩
 ·rw [z, g1] at b3
  cases b3
  rw [g2] at b6
  cases b6
 ·rw [z, hP] at b3
  cases b3
 ·rw [z, hP] at g1
  cases g1
theorem table_at {q : Program} {loose : List Str} {mean : ExcName → Option Value} {mb : Str → Option Value} {h : Heap} {x : Str} {f c P : Addr} (T : Top q loose mean mg mb h) (X : K.In h) (hq : x ∈ (recsOf q).map (·.name)) (k : TabK K x f c P) : h.TableAt c P #[] := by
 obtain ⟨d, hd, rfl⟩ := List.mem_map.mp hq
 obtain ⟨a, o, fd, c', P', h1, h2, h3, h4, h5, h6⟩ := T.tab d hd
 have e := h1.symm.trans (mg_of X T.g k.fn)
 cases e
 obtain ⟨oc, od, fd', osl, l1, l2⟩ := k.lf
 have e2 := h2.symm.trans (X _ _ l1)
 cases e2
 cases h3
 have e3 := h4.symm.trans l2
 cases e3
 obtain ⟨o, vs, file, tf, flags, tg, inF, text, tt, e1, e4, e5, e6, _⟩ := k.hd
 obtain ⟨⟨o', vs', g1, g2, g3, g4⟩, g5⟩ := h6
 have e7 := g1.symm.trans (X _ _ e1)
 cases e7
 rw [e5] at g3
 cases g3
 rw [e6] at g4
 cases g4
 exact ⟨⟨o, vs, g1, g2, e5, e6⟩, g5⟩
end
noncomputable def HTab (Ts : List (Addr × Array Value)) (H : Hp) : Hp := fun b => match Ts.lookup b with
 | some tag => some (.tbl tag)
 | none => H b
theorem mem_of_lookupT : ∀ {Ts : List (Addr × Array Value)} {b : Addr} {tag : Array Value}, Ts.lookup b = some tag → (b, tag) ∈ Ts
 | [], _, _, h => by cases h
 | (c, u) :: r, b, tag, h => by
  rw [List.lookup_cons] at h
  cases e : (b == c) with
  | true =>
   rw [e] at h
   cases h
   rw [eq_of_beq e]
   exact List.mem_cons_self
  | false =>
   rw [e] at h
   exact List.mem_cons_of_mem _ (mem_of_lookupT h)
theorem law_callT {P : Program} {w : World} {K : PySem.W.Frag} {mg mb : Str → Option Value} {CX : CXT} {k : Nat} {fa a : Addr} {fd : FuncData} {x : Str} {sp : Sp} {s₁ : Shared} {vs : List Value} {ns : List Int} {Ts : List (Addr × Array Value)}
  (KX : K.In s₁.heap) (hns : s₁.heap.Ns mainGlobals mg) (hb : s₁.heap.Ns builtinsNs mb) (hbb : ∀ x : Str, x ≠ "__name__" → mb x = bootBuiltins x) (hlim : s₁.heap.NoLimit) (hg : s₁.gens = #[])
  (ha : s₁.heap.get? a = some { cls := .type "list", data := .seq vs.toArray }) (hi : IntsAre vs ns) (hl : ns.length ≤ sizeLine) (hr : Room k callerA)
  (hT : ∀ z ∈ Ts, (∃ c, s₁.heap.TableAt c z.1 #[]) ∧ K.lookup z.1 = none) (hTs : ∀ z ∈ Ts, Ts.lookup z.1 = some z.2)
  (hbm : ∃ bm o, mg "__builtins__" = some (.ref bm) ∧ bm ≠ builtinsNs ∧ s₁.heap.get? bm = some o ∧ o.cls = .type "module" ∧ o.dict = some builtinsNs ∧ o.data = .plain)
  (F : ∀ base : Heap, K.In base → base.Ns mainGlobals mg → BaseT mg base Ts → FnOk P w K mg base CX k fa fd [x] sp) (hbind : ∀ (s : Shared) (u : Value), BindsTo s fd ⟨[u], []⟩ [(x, u)])
  (hsp : ∀ H : Hp, (∀ z ∈ Ts, H z.1 = some (.tbl z.2)) → SqL K H a (ns.map V.int) → sp [.ref a] H (fun v _ => v = .bl true) fun _ _ _ => False)
  (hCX : ∀ H e s', CX [] H s₁ (fun _ _ _ => False) e s' → False) :
  codeAny (model P w) callerA (.call (.ref fa) ⟨[.ref a], []⟩) (fun r s' => r = .ok (.ret (.bool true)) ∧ OldK s₁.heap s'.heap ∧ s'.os = s₁.os ∧ AllBare s'.gens) s₁ := by
 have rv := vals_ints hi
 have lenV := hi.length
 have aT : Ts.lookup a = none := by
  cases e : Ts.lookup a with
  | none => rfl
  | some tag =>
   obtain ⟨c, z⟩ := (hT _ (mem_of_lookupT e)).1
   have z2 := z.2
   rw [ha] at z2
   cases z2
 have core : ∀ H0 : Hp, SqL K (HTab Ts H0) a (ns.map V.int) → (∀ b u, H0 b = some u → b = a ∧ u = .frz { cls := .type "list", data := .seq vs.toArray } (.lst (ns.map V.int)) ∧ K.lookup a = none) →
   codeAny (model P w) callerA (.call (.ref fa) ⟨[.ref a], []⟩) (fun r s' => r = .ok (.ret (.bool true)) ∧ OldK s₁.heap s'.heap ∧ s'.os = s₁.os ∧ AllBare s'.gens) s₁ := by
  intro H0 hS hA
  have look : ∀ b u, HTab Ts H0 b = some u → (∃ tag c, (b, tag) ∈ Ts ∧ u = .tbl tag ∧ s₁.heap.TableAt c b #[]) ∨ (b = a ∧ u = .frz { cls := .type "list", data := .seq vs.toArray } (.lst (ns.map V.int)) ∧ K.lookup a = none) := fun b u e => by
   unfold HTab at e
   cases q : Ts.lookup b with
   | some tag =>
    rw [q] at e
    cases e
    obtain ⟨c, z⟩ := (hT _ (mem_of_lookupT q)).1
    exact .inl ⟨tag, c, mem_of_lookupT q, rfl, z⟩
   | none =>
    rw [q] at e
    exact .inr (hA b u e)
  have hok : HOk P w (HTab Ts H0) s₁.heap := fun b u e => by
   rcases look b u e with ⟨tag, c, _, rfl, z⟩ | ⟨rfl, rfl, _⟩
   ·exact ⟨#[], z.2, .inl rfl⟩
   ·exact ⟨ha, by rw [List.length_map]; exact hl, vs, _, rv, ha⟩
  have base_of : ∀ {b : Addr} {o : Obj}, s₁.heap.get? b = some o → HTab Ts H0 b = none → (hidT s₁.heap (HTab Ts H0)).get? b = some o := fun e n => hidT_get e n
  have dict_no : ∀ {b : Addr} {o : Obj}, s₁.heap.get? b = some o → o.cls ≠ .none → o.cls ≠ .type "list" → HTab Ts H0 b = none := fun {b o} e d1 d2 => by
   cases q : HTab Ts H0 b with
   | none => rfl
   | some u =>
    rcases look b u q with ⟨tag, c, _, _, z⟩ | ⟨rfl, _⟩
    ·have z2 := z.2
     rw [e] at z2
     cases z2
     exact absurd rfl d1
    ·rw [ha] at e
     cases e
     exact absurd rfl d2
  have noA : ∀ {b : Addr} {o : Obj} {es : Array DictEntry} {ep : Nat}, s₁.heap.get? b = some o → o.data = .dict es ep → HTab Ts H0 b = none := fun {b o es ep} e d => by
   cases q : HTab Ts H0 b with
   | none => rfl
   | some u =>
    rcases look b u q with ⟨tag, c, _, _, z⟩ | ⟨rfl, _⟩
    ·have z2 := z.2
     rw [e] at z2
     cases z2
     cases d
    ·rw [ha] at e
     cases e
     cases d
  have nsK : ∀ {b : Addr} {m : Str → Option Value}, s₁.heap.Ns b m → (hidT s₁.heap (HTab Ts H0)).Ns b m := fun {b m} ⟨o, es, ep, e, d, r⟩ => ⟨o, es, ep, base_of e (noA e d), d, r⟩
  have hKb : K.In (hidT s₁.heap (HTab Ts H0)) := fun b o e => base_of (KX b o e) (by
   cases q : HTab Ts H0 b with
   | none => rfl
   | some u =>
    rcases look b u q with ⟨tag, c, hm, _, z⟩ | ⟨rfl, _, hK⟩
    ·have := (hT _ hm).2
     rw [e] at this
     cases this
    ·rw [hK] at e
     cases e)
  have hM : Mod K mg (hidT s₁.heap (HTab Ts H0)) := ⟨hKb, nsK hns, ⟨mb, nsK hb, hbb⟩, let ⟨mc, h1, h2⟩ := hlim; ⟨mc, nsK h1, h2⟩⟩
  have hB : BaseT mg (hidT s₁.heap (HTab Ts H0)) Ts := by
   obtain ⟨bm, o, b1, b2, b3, b4, b5, b6⟩ := hbm
   refine ⟨⟨bm, o, b1, b2, base_of b3 (dict_no b3 (by rw [b4]; simp) (by rw [b4]; decide)), b4, b5, b6⟩, fun z hz => ?_⟩
   cases q : (hidT s₁.heap (HTab Ts H0)).get? z.1 with
   | none => rfl
   | some o =>
    have n := (of_hidT q).2
    unfold HTab at n
    rw [hTs z hz] at n
    cases n
  have e0 : Env0 P w K mg (hidT s₁.heap (HTab Ts H0)) callerA [] s₁ (HTab Ts H0) := ⟨rfl, hM, fun b o e => of_hidT e, Nat.le_of_eq (hidT_size _ _), trivial, fun b hb => absurd (show b ∈ ([] : List Addr) from hb) (by simp), hok, .of_eq hg⟩
  refine codeAny_mono ((F _ hKb (nsK hns) hB).run callerA [] s₁ (HTab Ts H0) ⟨[.ref a], []⟩ [.ref a] [.ref a] _ _ hr e0 (hbind s₁ (.ref a)) (.cons rfl .nil) (hsp _ (fun z hz => by unfold HTab; rw [hTs z hz]) hS)) fun r s' h => ?_
  match r, h with
  | .error e, h => exact (hCX _ e s' h).elim
  | .ok (.ret u), h =>
   obtain ⟨v, H', os, bare, un, hok', r', q⟩ := h
   have q' : v = .bl true := q
   subst q'
   obtain rfl : u = Value.bool true := r'
   have nof : ∀ b : Addr, b ∉ frs ([] : List Env) := fun b z => absurd (show b ∈ ([] : List Addr) from z) (by simp)
   have tb : ∀ b tag, HTab Ts H0 b = some (.tbl tag) → ∃ qs : Array Value, s'.heap.get? b = some { cls := .none, data := .fields qs } := fun b tag e => by
    obtain ⟨more, e2⟩ := un.tbls b tag e
    obtain ⟨qs, e3, _⟩ := (show ObjOk P w H' s'.heap b (.tbl _) from hok' b _ e2)
    exact ⟨qs, e3⟩
   have fz : ∀ b o u, HTab Ts H0 b = some (.frz o u) → s'.heap.get? b = some o := fun b o u e => (show ObjOk P w H' s'.heap b (.frz o u) from hok' b _ (un.frzs b o u e)).1
   refine ⟨rfl, ⟨fun b o e => ?_, fun b o e => ?_⟩, os, bare⟩
   ·cases q : HTab Ts H0 b with
    | none => exact .inl (un.keep b o e q (nof b) (by simp))
    | some u =>
     rcases look b u q with ⟨tag, c, _, rfl, z⟩ | ⟨rfl, rfl, _⟩
     ·obtain ⟨qs, e2⟩ := tb b tag q
      have z2 := z.2
      rw [e] at z2
      cases z2
      exact .inr (.inl ⟨z.isCodeTable, rfl, #[], qs, rfl, by rw [e2]; simp⟩)
     ·have e2 := fz b _ _ q
      rw [ha] at e
      cases e
      exact .inl e2
   ·cases q : HTab Ts H0 b with
    | none => exact ⟨o, un.keep b o e q (nof b) (by simp)⟩
    | some u =>
     rcases look b u q with ⟨tag, c, _, rfl, z⟩ | ⟨rfl, rfl, _⟩
     ·obtain ⟨qs, e2⟩ := tb b tag q
      exact ⟨_, e2⟩
     ·exact ⟨_, fz b _ _ q⟩
  | .ok .next, h => exact False.elim h
  | .ok .brk, h => exact False.elim h
  | .ok .cont, h => exact False.elim h
 cases hk : K.lookup a with
 | some o =>
  have e := KX a o hk
  rw [ha] at e
  cases e
  refine core (fun _ => none) (.inr ⟨_, vs.toArray, _, hk, rfl, rfl, rfl, by rw [List.size_toArray, lenV]; exact hl, by simpa using rv⟩) (fun b u e => by cases e)
 | none =>
  refine core (fun b => if b = a then some (.frz { cls := .type "list", data := .seq vs.toArray } (.lst (ns.map V.int))) else none) (.inl (.inr ⟨{ cls := .type "list", data := .seq vs.toArray }, ?_⟩)) (fun b u e => ?_)
  ·unfold HTab
   rw [aT]
   exact if_pos rfl
  ·by_cases hb : b = a
   ·have e' := (if_pos hb).symm.trans e
    cases e'
    exact ⟨hb, rfl, hk⟩
   ·have e' := (if_neg hb).symm.trans e
    cases e'
theorem walk_ofT {l : PySem.W.OpenLaw} {n k : Nat} {q : Program} {loose : List Str} {XP : (Str → Option Value) → Heap → Prop} {YP : World → Heap → Prop} {d : DefRec} {K : Params → PySem.W.Frag} {CX : World → CXT} {sp : World → Sp} {x : Str} (Ts : List (Addr × Array Value)) (nm : List Str)
  (hn : l.most = some n) (hn2 : n ≤ sizeLine) (hdf : d.params.defaults = []) (hr : Room k callerA) (hTs : ∀ z ∈ Ts, Ts.lookup z.1 = some z.2) (hq : ∀ y ∈ nm, y ∈ (recsOf q).map (·.name))
  (hY : ∀ (w : World) (h : Heap), YP w h → (K w.params).In h)
  (F : ∀ (w : World) (mg : Str → Option Value) (fa : Addr) (h : Heap), (K w.params).In h → h.Ns mainGlobals mg → mg d.name = some (.ref fa) →
   (∀ z ∈ Ts, ∃ y f c, y ∈ nm ∧ TabK (K w.params) y f c z.1) ∧ ∃ fd : FuncData, (∀ (s : Shared) (u : Value), BindsTo s fd ⟨[u], []⟩ [(x, u)]) ∧
    ∀ base : Heap, (K w.params).In base → base.Ns mainGlobals mg → BaseT mg base Ts → FnOk l.prog w (K w.params) mg base (CX w) k fa fd [x] (sp w))
  (hsp : ∀ (w : World) (H : Hp) (a : Addr) (ns : List Int), ns.length ≤ n → (∀ z ∈ Ts, H z.1 = some (.tbl z.2)) → SqL (K w.params) H a (ns.map V.int) → sp w [.ref a] H (fun v _ => v = .bl true) fun _ _ _ => False)
  (hCX : ∀ (w : World) (H : Hp) (s : Shared) (e : Value) (s' : Shared), CX w [] H s (fun _ _ _ => False) e s' → False) :
  PySem.W.WalkO q loose XP YP l.row.toRowW d [] (fun f vs => PySem.call f vs) := by
 refine Att.attach_call hn hdf fun w s₀ s₁ mg mb fa o pm cd doc a vs ns G Y ho hd hcd hmg hobj hints hlen hg => ?_
 have KX := hY w _ Y
 obtain ⟨hT, fd, hb, hF⟩ := F w mg fa _ KX G.T.g hmg
 obtain ⟨bm, ob, b1, b2, b3⟩ := G.T.bmain
 refine law_callT (Ts := Ts) KX G.T.g G.T.b G.T.builtins G.T.nolimit hg hobj hints (Nat.le_trans hlen hn2) hr (fun z hz => ?_) hTs ⟨bm, ob, b1, b2, b3⟩ hF hb (fun H hO hS => hsp w H a ns hlen hO hS) fun H e s' => hCX w H s₁ e s'
 obtain ⟨y, f, c, hy, tk⟩ := hT z hz
 exact ⟨⟨c, table_at G.T KX (hq y hy) tk⟩, tk.no⟩
end L2
set_option Elab.async false
set_option linter.all false
set_option maxRecDepth 100000
namespace L2
open PySem PySem.Spec PyProof.Rows
noncomputable def extR : V → List V → Hp → VK → Prop := fun x vs H Q => match x, vs with
 | .ref l, [.ref b] => optK (lstOf (H l)) fun xs => optK (lstOf (H b)) fun zs => xs.length + zs.length < 1000000 ∧ Q .non (upd H l (.lst (xs ++ zs)))
 | _, _ => False
section
variable {X : Cx}
theorem mt_ext : MtM X "list.extend" extR := by
 intro pins s σ H x vs v us Q I rx rv h
 unfold extR at h
 split at h
 ·rename_i l b
  obtain ⟨xs, e, h⟩ := optK_elim h
  obtain ⟨zs, e2, hz, q⟩ := optK_elim h
  exact mt_extend pins s σ H _ _ v us Q I rx rv ⟨l, b, xs, zs, rfl, rfl, lstOf_eq e, lstOf_eq e2, Nat.le_of_lt (small6 hz), q⟩
 ·exact h.elim
variable {o e : Expr} {to : TE} {t : TA} {apos cpos : Pos}
theorem pe_ext (ho : PE X o to) (ha : PA X [e] t)
  (hbase : attributeBase o "extend" X.env (eval o X.env) = eval o X.env := by rfl)
  (hfew : ((backTo cpos (starEach [e] X.env)).all (fun x => !x.1) && (backToKw cpos (keywordEach [] X.env)).all (fun x => x.1.isSome)
   && decide ([e].length + ([] : List Keyword).length + (if ([] : List Keyword).isEmpty then 0 else 1) < 30)) = true := by rfl)
  (hline : (apos.endLine == cpos.line) = true := by rfl) (hs : starEach [e] X.env = (false, eval e X.env) :: starEach [] X.env := by rfl) (hplain : (backTo cpos (starEach [] X.env)).any (·.1) = false := by rfl) :
  PE X (.Call (.Attribute o "extend" apos) [e] [] cpos) (tML extR to t) := by
 intro pins s σ H Q I h
 refine pe_bm PySem.F.plainAttrs_list PySem.F.slot_list_extend PySem.F.type_list_extend mt_ext ho.up ha hbase hfew hline hs hplain pins s σ H Q I ⟨_, h, fun x H1 q => ?_⟩
 cases x with
 | ref l =>
  obtain ⟨h1, h2⟩ := q
  obtain ⟨xs, e⟩ := Option.isSome_iff_exists.mp h1
  exact ⟨.inl ⟨rfl, xs, SqL.of (lstOf_eq e)⟩, h2⟩
 | _ => exact q.elim
theorem call_minT {K : PySem.W.Frag} (hK : X.K = K) (hcalm : X.calm = true) : CallR X (.builtin "min") (rBestT K fun M a => M ≤ a) := by
 subst hK
 intro pins s σ H xs us Q I r h
 obtain ⟨l, ns, rfl, hl, h0, q⟩ := h
 obtain ⟨u, rfl, rx⟩ := vals1 r
 cases rx
 obtain ⟨its, r', hIs, hz⟩ := I.tuple hl
 obtain ⟨hlen, hat⟩ := val_at r'
 refine call_min_walk (wpAny_pyIter_tuple hIs ?_)
 obtain ⟨o, ho, hcl, n, hdt⟩ := hIs
 have W := Walks.tuple (prog := X.prog) (w := X.w) (A := X.A.in1) (show X.A.in1.handled = none from I.ok.hd hcalm) s.heap.objs.size l (Nat.ne_of_lt (Heap.lt_size ho)) its.toArray
 have S0 : (s.heap.push { cls := .type "tuple_iterator", data := .fields #[.ref l, .int 0 0] }).IsTupleIter s.heap.objs.size l 0 ∧ (s.heap.push { cls := .type "tuple_iterator", data := .fields #[.ref l, .int 0 0] }).IsTuple l its.toArray := ⟨⟨_, Heap.get?_push_size _ rfl, rfl, rfl⟩, ⟨o, Heap.get?_push_of_some _ ho, hcl, n, hdt⟩⟩
 refine ⟨s.heap.objs.size, [s.heap.objs.size, l], [s.heap.objs.size], its.toArray.size, (fun i v => its.toArray[i]? = some v), _, fun i j => decide (ns.getD i 0 < ns.getD j 0), rfl, W, S0, ?_, ?_, CmpOf.ints_lt (fun i => ns.getD i 0) (fun i v hv => hat i v (by simpa using hv)), ?_⟩
 ·intro b hb
  simp only [List.mem_cons, List.not_mem_nil, or_false] at hb
  rw [Heap.size_push]
  rcases hb with rfl | rfl
  ·exact Nat.lt_succ_self _
  ·exact Nat.lt_succ_of_lt (Heap.lt_size ho)
 ·simp only [List.size_toArray]; omega
 ·intro v h' tk hv kp
  obtain ⟨hb1, hb2⟩ := best_lt (fun i => ns.getD i 0) (its.toArray.size - 1)
  simp only [List.size_toArray] at hb1 hb2 hv
  rw [List.getElem?_toArray] at hv
  obtain ⟨t, rfl⟩ := hat _ v hv
  refine ⟨.int _, H, I.kept (t' := tk) (fun b ob hq => kp b ob ?_ (Heap.get?_push_of_some _ hq)), ⟨t, rfl⟩, q _ (mem_of_getD (by omega)) fun a ha => ?_⟩
  ·simp only [List.mem_cons, List.not_mem_nil, or_false]
   exact Nat.ne_of_lt (Heap.lt_size hq)
  ·obtain ⟨j, hj⟩ := List.getElem?_of_mem ha
   have lj := (List.getElem?_eq_some_iff.mp hj).1
   have := hb2 j (by omega)
   rw [show ns.getD j 0 = a by rw [List.getD_eq_getElem?_getD, hj]; rfl] at this
   exact this
end
end L2
namespace MA
noncomputable def sgn (n : Int) : Int := if n < 0 then -1 else if 0 < n then 1 else 0
theorem sgn_pos {n : Int} (h : 0 < n) : sgn n = 1 := by unfold sgn; rw [if_neg (by omega), if_pos h]
theorem sgn_neg {n : Int} (h : n < 0) : sgn n = -1 := by unfold sgn; rw [if_pos h]
theorem sgn_range (n : Int) : sgn n = -1 ∨ sgn n = 0 ∨ sgn n = 1 := by unfold sgn; split <;> (try split) <;> simp
noncomputable def ab (i : Int) : Int := if i < 0 then -i else i
theorem ab_eq (i : Int) : ab i = (i.natAbs : Int) := by unfold ab; split <;> omega
theorem gcd_step {a b : Int} (hb : 0 < b) : Int.gcd b (a % b) = Int.gcd a b := by
 rw [Int.gcd_comm a b]
 have h : Int.gcd b (a % b + b * (a / b)) = Int.gcd b (a % b) := Int.gcd_add_mul_left_right ..
 rw [Int.emod_add_mul_ediv] at h
 exact h.symm
theorem gcd_abs_left (a b : Int) : Int.gcd (a.natAbs : Int) b = Int.gcd a b := by
 rw [Int.gcd_eq_natAbs_gcd_natAbs, Int.gcd_eq_natAbs_gcd_natAbs]; simp
theorem gcd_abs_right (a b : Int) : Int.gcd a (b.natAbs : Int) = Int.gcd a b := by
 rw [Int.gcd_eq_natAbs_gcd_natAbs, Int.gcd_eq_natAbs_gcd_natAbs]; simp
theorem gcd_zero {a : Int} (ha : 0 ≤ a) : (Int.gcd a 0 : Int) = a := by simp; omega
noncomputable def com (x y w : Int) : Int := (Int.gcd (Int.gcd w x) y : Int) * sgn w
structure IsPt (x y w a b c : Int) : Prop where
 pos : 0 < c
 ex : a * w = x * c
 ey : b * w = y * c
 low : Int.gcd (Int.gcd a b) c = 1
 la : a.natAbs ≤ x.natAbs
 lb : b.natAbs ≤ y.natAbs
 lc : c.natAbs ≤ w.natAbs
structure IsFr (x w a c : Int) : Prop where
 pos : 0 < c
 ex : a * w = x * c
 low : Int.gcd a c = 1
 la : a.natAbs ≤ x.natAbs
 lc : c.natAbs ≤ w.natAbs
theorem com_ne {x y w : Int} (hw : w ≠ 0) : com x y w ≠ 0 := by
 unfold com
 have h1 : Int.gcd (Int.gcd w x) y ≠ 0 := by
  intro h
  have := Int.gcd_eq_zero_iff.mp h
  have h2 : Int.gcd w x = 0 := by have := this.1; omega
  exact hw (Int.gcd_eq_zero_iff.mp h2).1
 intro h
 rcases Int.mul_eq_zero.mp h with h | h
 ·omega
 ·rcases Int.lt_or_gt_of_ne hw with z | z
  ·rw [sgn_neg z] at h; omega
  ·rw [sgn_pos z] at h; omega
theorem com_dvd (x y w : Int) (hw : w ≠ 0) : com x y w ∣ x ∧ com x y w ∣ y ∧ com x y w ∣ w := by
 have key : ∀ z, (Int.gcd (Int.gcd w x) y : Int) ∣ z → com x y w ∣ z := by
  intro z hz
  unfold com
  rcases Int.lt_or_gt_of_ne hw with q | q
  ·rw [sgn_neg q]
   rw [show (Int.gcd (Int.gcd w x) y : Int) * -1 = -(Int.gcd (Int.gcd w x) y : Int) by omega]
   exact Int.neg_dvd.mpr hz
  ·rw [sgn_pos q, Int.mul_one]
   exact hz
 have g1 : (Int.gcd (Int.gcd w x) y : Int) ∣ (Int.gcd w x : Int) := Int.gcd_dvd_left _ _
 exact ⟨key x (Int.dvd_trans g1 (Int.gcd_dvd_right _ _)), key y (Int.gcd_dvd_right _ _), key w (Int.dvd_trans g1 (Int.gcd_dvd_left _ _))⟩
theorem fdiv_exact {a b : Int} (h : b ∣ a) : a.fdiv b = a / b := by
 exact Int.fdiv_eq_ediv_of_dvd h
theorem natAbs_ediv_le (a b : Int) (h : b ∣ a) : (a / b).natAbs ≤ a.natAbs := by
 rw [Int.natAbs_ediv_of_dvd h]
 exact Nat.div_le_self _ _
theorem isPt_of {x y w : Int} (hw : w ≠ 0) : IsPt x y w (x.fdiv (com x y w)) (y.fdiv (com x y w)) (w.fdiv (com x y w)) := by
 obtain ⟨dx, dy, dw⟩ := com_dvd x y w hw
 have hc := com_ne (x := x) (y := y) hw
 rw [fdiv_exact dx, fdiv_exact dy, fdiv_exact dw]
 obtain ⟨a, ha⟩ := dx
 obtain ⟨b, hb⟩ := dy
 obtain ⟨c, hcw⟩ := dw
 have ea : x / com x y w = a := by
  have := Int.mul_ediv_cancel_left a hc
  rw [← ha] at this; exact this
 have eb : y / com x y w = b := by
  have := Int.mul_ediv_cancel_left b hc
  rw [← hb] at this; exact this
 have ec : w / com x y w = c := by
  have := Int.mul_ediv_cancel_left c hc
  rw [← hcw] at this; exact this
 have la := natAbs_ediv_le x _ (⟨a, ha⟩ : com x y w ∣ x)
 have lb := natAbs_ediv_le y _ (⟨b, hb⟩ : com x y w ∣ y)
 have lc := natAbs_ediv_le w _ (⟨c, hcw⟩ : com x y w ∣ w)
 rw [ea] at la ⊢
 rw [eb] at lb ⊢
 rw [ec] at lc ⊢
 generalize hG : com x y w = G at *
 have hgg : (Int.gcd (Int.gcd w x) y : Int) * sgn w = G := by rw [← hG]; rfl
 have gpos : 0 < (Int.gcd (Int.gcd w x) y : Int) := by
  have : (Int.gcd (Int.gcd w x) y : Int) ≠ 0 := by
   intro z
   rw [z, Int.zero_mul] at hgg
   exact hc hgg.symm
  omega
 refine ⟨?_, by rw [ha, hcw]; grind, by rw [hb, hcw]; grind, ?_, la, lb, lc⟩
 ·-- c is above 0
  rcases Int.lt_or_gt_of_ne hw with q | q
  ·rw [sgn_neg q] at hgg
   have hGn : G < 0 := by omega
   have h1 : G * c < 0 := by rw [← hcw]; exact q
   exact Int.pos_of_mul_neg_right h1 hGn
  ·rw [sgn_pos q, Int.mul_one] at hgg
   have h1 : 0 < G * c := by rw [← hcw]; exact q
   exact Int.pos_of_mul_pos_right h1 (by omega)
 ·-- lowest terms
  have e1 : Int.gcd (Int.gcd w x) y = G.natAbs := by
   have := congrArg Int.natAbs hgg
   rw [Int.natAbs_mul] at this
   have h2 : (sgn w).natAbs = 1 := by
    rcases Int.lt_or_gt_of_ne hw with q | q
    ·rw [sgn_neg q]; rfl
    ·rw [sgn_pos q]; rfl
   rw [h2, Nat.mul_one] at this
   simpa using this
  have e2 : Int.gcd (Int.gcd w x) y = G.natAbs * Int.gcd (Int.gcd c a) b := by
   rw [hcw, ha, hb]
   rw [Int.gcd_mul_left]
   have : ((G.natAbs * Int.gcd c a : Nat) : Int).gcd (G * b) = G.natAbs * Int.gcd (Int.gcd c a) b := by
    rw [Int.gcd_eq_natAbs_gcd_natAbs, Int.natAbs_mul]
    simp only [Int.natAbs_natCast]
    rw [Nat.gcd_mul_left, Int.gcd_eq_natAbs_gcd_natAbs (Int.gcd c a : Int) b]
    simp
   exact this
  have gn : 0 < G.natAbs := by omega
  have e3 : Int.gcd (Int.gcd c a) b = 1 := by
   rw [e1] at e2
   have : G.natAbs * 1 = G.natAbs * Int.gcd (Int.gcd c a) b := by omega
   exact (Nat.eq_of_mul_eq_mul_left gn this).symm
  have e4 : Int.gcd (Int.gcd a b) c = Int.gcd (Int.gcd c a) b := by
   rw [Int.gcd_comm (Int.gcd a b : Int) c, Int.gcd_assoc]
  rw [e4, e3]
theorem isFr_of {x w : Int} (hw : w ≠ 0) : IsFr x w (x.fdiv ((Int.gcd w x : Int) * sgn w)) (w.fdiv ((Int.gcd w x : Int) * sgn w)) := by
 have h := isPt_of (x := x) (y := 0) (w := w) hw
 have e : com x 0 w = (Int.gcd w x : Int) * sgn w := by
  unfold com
  simp
 rw [e] at h
 have h0 : (0 : Int).fdiv ((Int.gcd w x : Int) * sgn w) = 0 := Int.zero_fdiv _
 rw [h0] at h
 refine ⟨h.pos, h.ex, ?_, h.la, h.lc⟩
 have := h.low
 rw [Int.gcd_zero, gcd_abs_left] at this
 exact this
end MA
set_option Elab.async false
set_option linter.all false
namespace MC
open MA
noncomputable abbrev V3 := Int × Int × Int
noncomputable def dt (a b c : V3) : Int := a.1 * (b.2.1 * c.2.2 - b.2.2 * c.2.1) - a.2.1 * (b.1 * c.2.2 - b.2.2 * c.1) + a.2.2 * (b.1 * c.2.1 - b.2.1 * c.1)
noncomputable def ex (m p : V3) : Int := m.1 * p.1 + m.2.1 * p.2.1 - m.2.2 * p.2.2
noncomputable def cb (s : Int) (a : V3) (t : Int) (b : V3) : V3 := (s * a.1 + t * b.1, s * a.2.1 + t * b.2.1, s * a.2.2 + t * b.2.2)
noncomputable def Sim (q v : V3) : Prop := ∃ s t : Int, 0 < s ∧ 0 < t ∧ q.1 * s = v.1 * t ∧ q.2.1 * s = v.2.1 * t ∧ q.2.2 * s = v.2.2 * t
theorem Sim.dt {q v : V3} (h : Sim q v) (a b : V3) : ∃ s t : Int, 0 < s ∧ 0 < t ∧ dt a b q * s = dt a b v * t := by
 obtain ⟨s, t, hs, ht, e1, e2, e3⟩ := h
 refine ⟨s, t, hs, ht, ?_⟩
 unfold MC.dt
 grind
theorem Sim.ex {q v : V3} (h : Sim q v) (m : V3) : ∃ s t : Int, 0 < s ∧ 0 < t ∧ ex m q * s = ex m v * t := by
 obtain ⟨s, t, hs, ht, e1, e2, e3⟩ := h
 refine ⟨s, t, hs, ht, ?_⟩
 unfold MC.ex
 grind
noncomputable abbrev Vx := V3 × V3 × Int
noncomputable def rot {α : Type} (l : List α) : List α := l.drop 1 ++ l.take 1
noncomputable def edges (l : List Vx) : List (Vx × Vx) := l.zip (rot l)
structure Edge (l : List Vx) (a b : Vx) : Prop where
 ne : a.1 ≠ b.1
 on1 : ex a.2.1 a.1 = 0
 on2 : ex a.2.1 b.1 = 0
 left : ∀ c ∈ l, c.1 = a.1 ∨ c.1 = b.1 ∨ 0 < dt a.1 b.1 c.1
 back : ∀ c ∈ l, c.1 = a.1 ∨ c.1 = b.1 ∨ ex a.2.1 c.1 < 0
structure Poly (l : List Vx) : Prop where
 three : 3 ≤ l.length
 pos : ∀ v ∈ l, 0 < v.1.2.2
 low : ∀ v ∈ l, Int.gcd (Int.gcd v.1.1 v.1.2.1) v.1.2.2 = 1
 nd : (l.map (·.1)).Nodup
 edge : ∀ e ∈ edges l, Edge l e.1 e.2
theorem edges_rot1 : ∀ l : List Vx, edges (rot l) = rot (edges l)
 | [] => rfl
 | [x] => rfl
 | x :: y :: t => by
  show ((y :: t) ++ [x]).zip ((t ++ [x]) ++ [y]) = ((y :: t).zip (t ++ [x])) ++ [(x, y)]
  rw [List.zip_append (by simp)]
  rfl
theorem mem_rot {α : Type} (l : List α) (a : α) : a ∈ rot l ↔ a ∈ l := by
 unfold rot
 cases l with
 | nil => simp
 | cons x r => simp [or_comm]
theorem rot_length {α : Type} (l : List α) : (rot l).length = l.length := by
 unfold rot
 cases l with
 | nil => rfl
 | cons x r => simp
theorem rot_map {α β : Type} (f : α → β) (l : List α) : rot (l.map f) = (rot l).map f := by
 unfold rot
 rw [List.map_append, List.map_drop, List.map_take]
theorem rot_nodup {α : Type} (l : List α) (h : l.Nodup) : (rot l).Nodup := by
 unfold rot
 cases l with
 | nil => exact List.nodup_nil
 | cons x r =>
  have := List.nodup_cons.mp h
  show (r ++ [x]).Nodup
  rw [List.nodup_append]
  refine ⟨this.2, by simp, fun a ha b hb e => ?_⟩
  simp only [List.mem_cons, List.not_mem_nil, or_false] at hb
  subst hb
  subst e
  exact this.1 ha
theorem Edge.mem {l m : List Vx} {a b : Vx} (h : Edge l a b) (hm : ∀ c ∈ m, c ∈ l) : Edge m a b := ⟨h.ne, h.on1, h.on2, fun c hc => h.left c (hm c hc), fun c hc => h.back c (hm c hc)⟩
theorem Poly.rot {l : List Vx} (h : Poly l) : Poly (rot l) where
 three := by rw [rot_length]; exact h.three
 pos := fun v hv => h.pos v ((mem_rot l v).mp hv)
 low := fun v hv => h.low v ((mem_rot l v).mp hv)
 nd := by rw [← rot_map]; exact rot_nodup _ h.nd
 edge := fun e he => by
  rw [edges_rot1, mem_rot] at he
  exact (h.edge e he).mem fun c hc => (mem_rot l c).mp hc
end MC
set_option linter.all false
set_option Elab.async false
namespace MC
noncomputable abbrev Q2 := Int × Int
noncomputable def trn (a b c : Q2) : Int := (b.1 - a.1) * (c.2 - a.2) - (b.2 - a.2) * (c.1 - a.1)
noncomputable def Lx (a b : Q2) : Prop := a.1 < b.1 ∨ (a.1 = b.1 ∧ a.2 < b.2)
noncomputable instance (a b : Q2) : Decidable (Lx a b) := by unfold Lx; infer_instance
theorem Lx.irr {a : Q2} : ¬ Lx a a := by unfold Lx; omega
theorem Lx.trans {a b c : Q2} (h : Lx a b) (g : Lx b c) : Lx a c := by unfold Lx at *; omega
theorem Lx.asymm {a b : Q2} (h : Lx a b) : ¬ Lx b a := by unfold Lx at *; omega
theorem lx_total (a b : Q2) : Lx a b ∨ a = b ∨ Lx b a := by
 unfold Lx
 by_cases h1 : a.1 = b.1
 ·by_cases h2 : a.2 = b.2
  ·exact .inr (.inl (Prod.ext h1 h2))
  ·omega
 ·omega
noncomputable def crs (u v : Q2) : Int := u.1 * v.2 - u.2 * v.1
noncomputable def Up (u : Q2) : Prop := 0 < u.1 ∨ (u.1 = 0 ∧ 0 < u.2)
theorem crs_mid (u v w : Q2) : v.1 * crs u w = w.1 * crs u v + u.1 * crs v w := by unfold crs; grind
theorem nn_of {a b : Int} (ha : 0 < a) (h : 0 ≤ a * b) : 0 ≤ b := Int.le_of_mul_le_mul_left (by simpa using h) ha
theorem pp_of {a b : Int} (ha : 0 < a) (h : 0 < a * b) : 0 < b := Int.lt_of_mul_lt_mul_left (by simpa using h) (Int.le_of_lt ha)
theorem crs_go {u v w : Q2} (hu : Up u) (hv : Up v) (hw : Up w) (h1 : 0 ≤ crs u v) (h2 : 0 ≤ crs v w) : 0 ≤ crs u w := by
 have e := crs_mid u v w
 have u0 : 0 ≤ u.1 := by unfold Up at hu; omega
 have w0 : 0 ≤ w.1 := by unfold Up at hw; omega
 rcases hv with v0 | ⟨v0, v2⟩
 ·refine nn_of v0 ?_
  rw [e]
  have := Int.mul_nonneg w0 h1
  have := Int.mul_nonneg u0 h2
  omega
 ·have k : crs v w = -(v.2 * w.1) := by unfold crs; rw [v0]; grind
  have w1 : w.1 = 0 := by
   rw [k] at h2
   rcases Int.lt_or_eq_of_le w0 with g | g
   ·have := Int.mul_pos v2 g
    omega
   ·exact g.symm
  have w2 : 0 < w.2 := by unfold Up at hw; omega
  have k2 : crs u w = u.1 * w.2 := by unfold crs; rw [w1]; grind
  rw [k2]
  exact Int.mul_nonneg u0 (Int.le_of_lt w2)
theorem crs_back {u w q : Q2} (hu : Up u) (hw : Up w) (hq : q.1 ≤ 0) (h1 : 0 ≤ crs u q) (h2 : 0 ≤ crs u w) (hq2 : q.1 = 0 → q.2 ≤ 0) : 0 ≤ crs w q := by
 have e : u.1 * crs w q = w.1 * crs u q + (-q.1) * crs u w := by unfold crs; grind
 have w0 : 0 ≤ w.1 := by unfold Up at hw; omega
 rcases hu with u0 | ⟨u0, u2⟩
 ·refine nn_of u0 ?_
  rw [e]
  have := Int.mul_nonneg w0 h1
  have := Int.mul_nonneg (show 0 ≤ -q.1 by omega) h2
  omega
 ·have k : crs u w = -(u.2 * w.1) := by unfold crs; rw [u0]; grind
  have w1 : w.1 = 0 := by
   rw [k] at h2
   rcases Int.lt_or_eq_of_le w0 with g | g
   ·have := Int.mul_pos u2 g
    omega
   ·exact g.symm
  have w2 : 0 < w.2 := by unfold Up at hw; omega
  have k2 : crs w q = w.2 * (-q.1) := by unfold crs; rw [w1]; grind
  rw [k2]
  exact Int.mul_nonneg (Int.le_of_lt w2) (by omega)
theorem crs_over {u w q : Q2} (hu : Up u) (hw : Up w) (hq : Up q) (h1 : 0 ≤ crs u q) (h2 : crs u w < 0) : 0 < crs w q := by
 have e : u.1 * crs w q = w.1 * crs u q + q.1 * (-crs u w) := by unfold crs; grind
 have w0 : 0 ≤ w.1 := by unfold Up at hw; omega
 rcases hu with u0 | ⟨u0, u2⟩
 ·rcases hq with q0 | ⟨q0, q2⟩
  ·refine pp_of u0 ?_
   rw [e]
   have := Int.mul_nonneg w0 h1
   have := Int.mul_pos q0 (show 0 < -crs u w by omega)
   omega
  ·have k : crs w q = w.1 * q.2 := by unfold crs; rw [q0]; grind
   rw [k]
   rcases Int.lt_or_eq_of_le w0 with g | g
   ·exact Int.mul_pos g q2
   ·have w2 : 0 < w.2 := by unfold Up at hw; omega
    have k2 : crs u w = u.1 * w.2 := by unfold crs; rw [← g]; grind
    have := Int.mul_pos u0 w2
    omega
 ·have k : crs u w = -(u.2 * w.1) := by unfold crs; rw [u0]; grind
  have w1 : 0 < w.1 := by
   rcases Int.lt_or_eq_of_le w0 with g | g
   ·exact g
   ·rw [k, ← g] at h2
    simp at h2
  have k1 : crs u q = -(u.2 * q.1) := by unfold crs; rw [u0]; grind
  have q0 : q.1 = 0 := by
   have q0 : 0 ≤ q.1 := by unfold Up at hq; omega
   rcases Int.lt_or_eq_of_le q0 with g | g
   ·have := Int.mul_pos u2 g
    omega
   ·exact g.symm
  have q2 : 0 < q.2 := by unfold Up at hq; omega
  have k2 : crs w q = w.1 * q.2 := by unfold crs; rw [q0]; grind
  rw [k2]
  exact Int.mul_pos w1 q2
noncomputable def sub2 (b a : Q2) : Q2 := (b.1 - a.1, b.2 - a.2)
theorem up_of {a b : Q2} (h : Lx a b) : Up (sub2 b a) := by unfold Lx at h; unfold Up sub2; dsimp only; omega
theorem trn_1 (a b c : Q2) : trn a b c = crs (sub2 b a) (sub2 c b) := by unfold trn crs sub2; grind
theorem trn_2 (a b c : Q2) : trn a b c = crs (sub2 b a) (sub2 c a) := by unfold trn crs sub2; grind
theorem trn_flip (a b c : Q2) : trn a c b = -trn a b c := by unfold trn; grind
theorem trn_neg (a b c : Q2) : trn (-a.1, -a.2) (-b.1, -b.2) (-c.1, -c.2) = trn a b c := by unfold trn; grind
theorem trn_deep {a b c d : Q2} (h1 : Lx a b) (h2 : Lx b c) (h3 : Lx c d) (t1 : 0 ≤ trn a b c) (t2 : 0 ≤ trn b c d) : 0 ≤ trn a b d := by
 rw [trn_1] at t1 ⊢
 rw [trn_2] at t2
 exact crs_go (up_of h1) (up_of h2) (up_of (h2.trans h3)) t1 t2
theorem trn_behind {a b n p : Q2} (h1 : Lx a b) (h2 : Lx b n) (hp : Lx p b) (t1 : 0 ≤ trn a b p) (t2 : 0 ≤ trn a b n) : 0 ≤ trn b n p := by
 rw [trn_1] at t1 t2
 rw [trn_2]
 refine crs_back (up_of h1) (up_of h2) ?_ t1 t2 ?_
 ·unfold sub2 Lx at *
  dsimp only
  omega
 ·unfold sub2 Lx at *
  dsimp only
  omega
theorem trn_popped {b t n p : Q2} (h1 : Lx b t) (h2 : Lx b n) (hp : Lx b p) (t1 : 0 ≤ trn b t p) (t2 : trn b t n < 0) : 0 < trn b n p := by
 rw [trn_2] at t1 t2 ⊢
 exact crs_over (up_of h1) (up_of h2) (up_of hp) t1 t2
noncomputable def popW (n : Q2) : List Q2 → List Q2
 | t :: b :: rest => if trn b t n < 0 then popW n (b :: rest) else t :: b :: rest
 | [t] => [t]
 | [] => []
noncomputable def wayS (ps : List Q2) : List Q2 := ps.foldl (fun st n => n :: popW n st) []
theorem popW_spec (n : Q2) : ∀ st : List Q2, st ≠ [] → ∃ k b rest, st.drop k = b :: rest ∧ popW n st = b :: rest ∧ (∀ a, rest.head? = some a → 0 ≤ trn a b n) ∧ (k = 0 ∨ ∃ j t, k = j + 1 ∧ st[j]? = some t ∧ trn b t n < 0)
 | [], h => absurd rfl h
 | [t], _ => ⟨0, t, [], rfl, rfl, fun a h => by simp at h, .inl rfl⟩
 | t :: b :: rest, _ => by
  by_cases c : trn b t n < 0
  ·obtain ⟨k, b', r', h1, h2, h3, h4⟩ := popW_spec n (b :: rest) (by simp)
   refine ⟨k + 1, b', r', by simpa using h1, by rw [popW, if_pos c, h2], h3, .inr ?_⟩
   rcases h4 with rfl | ⟨j, t', rfl, g1, g2⟩
   ·have : b = b' := by simpa using congrArg List.head? h1
    subst this
    exact ⟨0, t, rfl, rfl, c⟩
   ·exact ⟨j + 1, t', rfl, by simpa using g1, g2⟩
  ·exact ⟨0, t, b :: rest, rfl, by rw [popW, if_neg c], fun a h => by
    have : b = a := by simpa using h
    subst this
    omega, .inl rfl⟩
structure Hul (ps st : List Q2) : Prop where
 top : st.head? = ps.getLast?
 bot : st.getLast? = ps.head?
 dec : st.Pairwise fun a b => Lx b a
 sub : ∀ p ∈ st, p ∈ ps
 edge : ∀ (i : Nat) (a b : Q2), st[i]? = some b → st[i + 1]? = some a → ∀ p ∈ ps, 0 ≤ trn a b p ∧ (trn a b p = 0 → ¬ (Lx a p ∧ Lx p b))
theorem trn_self (a b : Q2) : trn a b b = 0 := by unfold trn; grind
theorem trn_self' (a b : Q2) : trn a b a = 0 := by unfold trn; grind
theorem Hul.step {ps st : List Q2} (h : Hul ps st) (sp : ps.Pairwise Lx) (ne : st ≠ []) {n : Q2} (hn : ∀ p ∈ ps, Lx p n) : Hul (ps ++ [n]) (n :: popW n st) := by
 obtain ⟨k, b, rest, h1, h2, h3, h4⟩ := popW_spec n st ne
 rw [h2]
 have sb : (b :: rest).Sublist st := by rw [← h1]; exact List.drop_sublist _ _
 have dec := h.dec.sublist sb
 obtain ⟨d1, d2⟩ := List.pairwise_cons.mp dec
 have ix : ∀ i, (b :: rest)[i]? = st[k + i]? := fun i => by rw [← h1, List.getElem?_drop]
 have bm : b ∈ ps := h.sub b (sb.subset (by simp))
 have bn := hn b bm
 -- deeper edges and the new one
 have deep : ∀ (i : Nat) (a c : Q2), (b :: rest)[i]? = some c → (b :: rest)[i + 1]? = some a → 0 ≤ trn a c n := by
  intro i
  induction i with
  | zero =>
   intro a c e1 e2
   have : b = c := by simpa using e1
   subst this
   exact h3 a (by simpa [List.head?_eq_getElem?] using e2)
  | succ i ih =>
   intro a c e1 e2
   obtain ⟨c', e0⟩ : ∃ c', (b :: rest)[i]? = some c' := ⟨_, List.getElem?_eq_getElem (by have := (List.getElem?_eq_some_iff.mp e1).1; omega)⟩
   have t2 := ih c c' e0 e1
   have lt1 : Lx a c := (List.pairwise_iff_getElem.mp dec (i + 1) (i + 1 + 1) (List.getElem?_eq_some_iff.mp e1).1 (List.getElem?_eq_some_iff.mp e2).1 (by omega) |> fun q => by
    rw [(List.getElem?_eq_some_iff.mp e1).2, (List.getElem?_eq_some_iff.mp e2).2] at q
    exact q)
   have lt2 : Lx c c' := (List.pairwise_iff_getElem.mp dec i (i + 1) (List.getElem?_eq_some_iff.mp e0).1 (List.getElem?_eq_some_iff.mp e1).1 (by omega) |> fun q => by
    rw [(List.getElem?_eq_some_iff.mp e0).2, (List.getElem?_eq_some_iff.mp e1).2] at q
    exact q)
   have cm : c' ∈ ps := h.sub c' (sb.subset (List.mem_of_getElem? e0))
   have t1 := (h.edge (k + (i + 1)) a c ((ix _).symm.trans e1) (by rw [show k + (i + 1) + 1 = k + (i + 1 + 1) by omega]; exact (ix _).symm.trans e2) c' cm).1
   exact trn_deep lt1 lt2 (hn c' cm) t1 t2
 refine ⟨by simp, ?_, ?_, ?_, ?_⟩
 ·have e1 : (n :: b :: rest).getLast? = (b :: rest).getLast? := by simp [List.getLast?_cons_cons]
  have e2 : (b :: rest).getLast? = st.getLast? := by
   rw [← h1, List.getLast?_drop]
   rw [if_neg (by intro q; rw [List.drop_eq_nil_of_le q] at h1; cases h1)]
  rw [e1, e2, h.bot]
  cases ps with
  | nil => cases bm
  | cons p ps => rfl
 ·exact List.pairwise_cons.mpr ⟨fun p hp => hn p (h.sub p (sb.subset hp)), dec⟩
 ·intro p hp
  rcases List.mem_cons.mp hp with rfl | hp
  ·simp
  ·exact List.mem_append_left _ (h.sub p (sb.subset hp))
 ·intro i a c e1 e2 p hp
  cases i with
  | zero =>
   have : n = c := by simpa using e1
   subst this
   have : b = a := by simpa using e2
   subst this
   rcases List.mem_append.mp hp with hp | hp
   ·rcases lx_total p b with g | rfl | g
    ·refine ⟨?_, fun _ q => (g.asymm q.1)⟩
     cases hr : rest.head? with
     | some a =>
      have e3 : (b :: rest)[1]? = some a := by simpa [List.head?_eq_getElem?] using hr
      have la : Lx a b := d1 a (List.mem_of_mem_head? hr)
      exact trn_behind la bn g (h.edge (k + 0) a b ((ix 0).symm.trans rfl) ((ix 1).symm.trans e3) p hp).1 (h3 a hr)
     | none =>
      exfalso
      have er : rest = [] := by simpa using hr
      have el : (b :: rest).getLast? = st.getLast? := by
       rw [← h1, List.getLast?_drop]
       rw [if_neg (by intro q; rw [List.drop_eq_nil_of_le q] at h1; cases h1)]
      rw [er, h.bot] at el
      cases ps with
      | nil => cases bm
      | cons p0 ps =>
       have : b = p0 := by simpa using el
       subst this
       rcases List.mem_cons.mp hp with rfl | hp
       ·exact Lx.irr g
       ·exact ((List.pairwise_cons.mp sp).1 p hp).asymm g
    ·exact ⟨by rw [trn_self']; exact Int.le_refl _, fun _ q => Lx.irr q.1⟩
    ·rcases h4 with rfl | ⟨j, t, rfl, g1, g2⟩
     ·exfalso
      have et : st.head? = some b := by
       have := ix 0
       simp only [Nat.zero_add, List.getElem?_cons_zero] at this
       rw [List.head?_eq_getElem?]
       exact this.symm
      rw [h.top] at et
      obtain ⟨qs, rfl⟩ := List.getLast?_eq_some_iff.mp et
      rcases List.mem_append.mp hp with hp | hp
      ·exact ((List.pairwise_append.mp sp).2.2 p hp b (by simp)).asymm g
      ·rw [List.mem_singleton.mp hp] at g
       exact Lx.irr g
     ·have e9 : st[j + 1]? = some b := (ix 0).symm.trans rfl
      have lt : Lx b t := (List.pairwise_iff_getElem.mp h.dec j (j + 1) (List.getElem?_eq_some_iff.mp g1).1 (List.getElem?_eq_some_iff.mp e9).1 (by omega) |> fun q => by
       rw [(List.getElem?_eq_some_iff.mp g1).2, (List.getElem?_eq_some_iff.mp e9).2] at q
       exact q)
      have e := h.edge j b t g1 ((ix 0).symm.trans rfl) p hp
      have := trn_popped lt bn g e.1 g2
      exact ⟨by omega, fun z => by omega⟩
   ·rw [List.mem_singleton.mp hp]
    exact ⟨by rw [trn_self]; exact Int.le_refl _, fun _ q => Lx.irr q.2⟩
  | succ i =>
   have e1' : (b :: rest)[i]? = some c := by simpa using e1
   have e2' : (b :: rest)[i + 1]? = some a := by simpa using e2
   rcases List.mem_append.mp hp with hp | hp
   ·exact h.edge (k + i) a c ((ix i).symm.trans e1') ((ix (i + 1)).symm.trans e2') p hp
   ·rw [List.mem_singleton.mp hp]
    refine ⟨deep i a c e1' e2', fun _ q => ?_⟩
    exact (hn c (h.sub c (sb.subset (List.mem_of_getElem? e1')))).asymm q.2
theorem hul_of : ∀ (ps : List Q2) (st : List Q2) (qs : List Q2), Hul ps st → (ps ++ qs).Pairwise Lx → st ≠ [] → Hul (ps ++ qs) (qs.foldl (fun st n => n :: popW n st) st)
 | ps, st, [], h, _, _ => by simpa using h
 | ps, st, n :: qs, h, sp, ne => by
  have e : ps ++ n :: qs = (ps ++ [n]) ++ qs := by simp
  rw [e] at sp ⊢
  have sp' := (List.pairwise_append.mp sp).1
  have hn : ∀ p ∈ ps, Lx p n := fun p hp => (List.pairwise_append.mp sp').2.2 p hp n (by simp)
  exact hul_of (ps ++ [n]) _ qs (h.step (List.pairwise_append.mp sp').1 ne hn) sp (by simp)
theorem wayS_hul {ps : List Q2} (sp : ps.Pairwise Lx) (ne : ps ≠ []) : Hul ps (wayS ps) := by
 cases ps with
 | nil => exact absurd rfl ne
 | cons p ps =>
  have h0 : Hul [p] [p] := ⟨rfl, rfl, by simp, fun q hq => hq, fun i a b e1 e2 => by
   cases i with
   | zero => simp at e2
   | succ i => simp at e1⟩
  exact hul_of [p] [p] ps h0 sp (by simp)
noncomputable def IsEdge (ps : List Q2) (a b : Q2) : Prop := ∀ p ∈ ps, 0 ≤ trn a b p ∧ (trn a b p = 0 → ¬ (Lx a p ∧ Lx p b))
theorem find_step {a : Q2} : ∀ st : List Q2, (∀ t, st.head? = some t → Lx a t) → (∀ t, st.getLast? = some t → ¬ Lx a t) → st ≠ [] → ∃ (i : Nat) (c d : Q2), st[i]? = some d ∧ st[i + 1]? = some c ∧ Lx a d ∧ ¬ Lx a c
 | [], _, _, h => absurd rfl h
 | [t], h1, h2, _ => absurd (h1 t rfl) (h2 t rfl)
 | t :: u :: rest, h1, h2, _ => by
  by_cases c : Lx a u
  ·obtain ⟨i, c', d, g1, g2, g3⟩ := find_step (u :: rest) (fun x hx => by
    have : u = x := by simpa using hx
    exact this ▸ c) (fun x hx => h2 x (by rw [List.getLast?_cons_cons]; exact hx)) (by simp)
   exact ⟨i + 1, c', d, by simpa using g1, by simpa using g2, g3⟩
  ·exact ⟨0, u, t, rfl, rfl, h1 t rfl, c⟩
theorem Hul.all {ps st : List Q2} (h : Hul ps st) (sp : ps.Pairwise Lx) (ne : st ≠ []) {a b : Q2} (ha : a ∈ ps) (hb : b ∈ ps) (ab : Lx a b) (e : IsEdge ps a b) : ∃ i, st[i]? = some b ∧ st[i + 1]? = some a := by
 have lastp : ∀ t, ps.getLast? = some t → Lx a t := fun t ht => by
  obtain ⟨qs, rfl⟩ := List.getLast?_eq_some_iff.mp ht
  have le : b = t ∨ Lx b t := by
   rcases List.mem_append.mp hb with g | g
   ·exact .inr ((List.pairwise_append.mp sp).2.2 b g t (by simp))
   ·exact .inl (List.mem_singleton.mp g)
  rcases le with rfl | g
  ·exact ab
  ·exact ab.trans g
 have firstp : ∀ t, ps.head? = some t → ¬ Lx a t := fun t ht => by
  cases ps with
  | nil => cases ha
  | cons p ps =>
   have : p = t := by simpa using ht
   subst this
   rcases List.mem_cons.mp ha with rfl | g
   ·exact Lx.irr
   ·exact ((List.pairwise_cons.mp sp).1 a g).asymm
 obtain ⟨i, c, d, g1, g2, g3, g4⟩ := find_step (a := a) st (fun t ht => lastp t (by rw [← h.top]; exact ht)) (fun t ht => firstp t (by rw [← h.bot]; exact ht)) ne
 have dm := h.sub d (List.mem_of_getElem? g1)
 have cm := h.sub c (List.mem_of_getElem? g2)
 rcases lx_total c a with ca | rfl | ca
 ·exfalso
  have k1 := h.edge i c d g1 g2 a ha
  have k0 : 0 < trn c d a := by
   have := k1.1
   by_cases z : trn c d a = 0
   ·exact absurd ⟨ca, g3⟩ (k1.2 z)
   ·omega
  have k2 := (e c cm).1
  have k3 := (e d dm).1
  have r1 : trn a b c = crs (sub2 a c) (sub2 b a) := by unfold trn crs sub2; grind
  have r2 : trn a b d = crs (sub2 b a) (sub2 d a) := trn_2 a b d
  have r3 : trn c d a = -crs (sub2 a c) (sub2 d a) := by unfold trn crs sub2; grind
  rw [r1] at k2
  rw [r2] at k3
  rw [r3] at k0
  have := crs_go (up_of ca) (up_of ab) (up_of g3) k2 k3
  omega
 ·have k1 := h.edge i c d g1 g2 b hb
  have k2 := e d dm
  have f := trn_flip c b d
  rcases lx_total b d with bd | rfl | bd
  ·exact absurd ⟨ab, bd⟩ (k1.2 (by have := k1.1; have := k2.1; omega))
  ·exact ⟨i, g1, g2⟩
  ·exact absurd ⟨g3, bd⟩ (k2.2 (by have := k1.1; have := k2.1; omega))
 ·exact absurd ca g4
end MC
set_option linter.all false
set_option Elab.async false
namespace MC
noncomputable def ng (a : Q2) : Q2 := (-a.1, -a.2)
theorem lx_ng {a b : Q2} : Lx (ng a) (ng b) ↔ Lx b a := by unfold Lx ng; dsimp only; omega
theorem trn_ng (a b c : Q2) : trn (ng a) (ng b) (ng c) = trn a b c := trn_neg a b c
theorem popW_ng (n : Q2) : ∀ st : List Q2, popW (ng n) (st.map ng) = (popW n st).map ng
 | [] => rfl
 | [t] => rfl
 | t :: b :: rest => by
  show (if trn (ng b) (ng t) (ng n) < 0 then popW (ng n) (ng b :: rest.map ng) else ng t :: ng b :: rest.map ng) = _
  rw [trn_ng, popW]
  split
  ·exact popW_ng n (b :: rest)
  ·rfl
theorem wayS_go : ∀ (ps st : List Q2), (ps.map ng).foldl (fun st n => n :: popW n st) (st.map ng) = (ps.foldl (fun st n => n :: popW n st) st).map ng
 | [], st => rfl
 | p :: ps, st => by
  show (ps.map ng).foldl (fun st n => n :: popW n st) (ng p :: popW (ng p) (st.map ng)) = _
  rw [popW_ng]
  exact wayS_go ps (p :: popW p st)
theorem wayS_ng (ps : List Q2) : wayS (ps.map ng) = (wayS ps).map ng := wayS_go ps []
noncomputable def Nxt (w : List Nat) (a b : Nat) : Prop := ∃ i, w[i]? = some a ∧ w[i + 1]? = some b
noncomputable def UpE (P : Nat → Q2) (q : List Nat) (a b : Nat) : Prop := Lx (P a) (P b) ∧ ∀ k ∈ q, 0 ≤ trn (P a) (P b) (P k) ∧ (trn (P a) (P b) (P k) = 0 → ¬ (Lx (P a) (P k) ∧ Lx (P k) (P b)))
structure WayOk (P : Nat → Q2) (q w : List Nat) : Prop where
 hd : w.head? = q.head?
 lt : w.getLast? = q.getLast?
 dec : (w.map P).Pairwise Lx
 sub : ∀ a ∈ w, a ∈ q
 edg : ∀ a b, a ∈ q → b ∈ q → (Nxt w a b ↔ UpE P q a b)
theorem inj_of {P : Nat → Q2} {q : List Nat} (sp : (q.map P).Pairwise Lx) {a b : Nat} (ha : a ∈ q) (hb : b ∈ q) (e : P a = P b) : a = b := by
 obtain ⟨i, li, rfl⟩ := List.mem_iff_getElem.mp ha
 obtain ⟨j, lj, rfl⟩ := List.mem_iff_getElem.mp hb
 have f := List.pairwise_iff_getElem.mp sp
 rcases Nat.lt_trichotomy i j with g | rfl | g
 ·have := f i j (by simpa using li) (by simpa using lj) g
  simp only [List.getElem_map] at this
  rw [e] at this
  exact absurd this Lx.irr
 ·rfl
 ·have := f j i (by simpa using lj) (by simpa using li) g
  simp only [List.getElem_map] at this
  rw [e] at this
  exact absurd this Lx.irr
theorem way_ok {P : Nat → Q2} {q w : List Nat} (sp : (q.map P).Pairwise Lx) (ne : q ≠ []) (hw : (w.map P).reverse = wayS (q.map P)) (sub : ∀ a ∈ w, a ∈ q) : WayOk P q w := by
 have hul := wayS_hul sp (by simpa using ne)
 rw [← hw] at hul
 have sne : (w.map P).reverse ≠ [] := by
  intro e
  have := hul.top
  rw [e] at this
  exact ne (List.map_eq_nil_iff.mp (List.getLast?_eq_none_iff.mp this.symm))
 have ix : ∀ i a, w[i]? = some a → ∀ j, i + j + 1 = w.length → (w.map P).reverse[j]? = some (P a) := by
  intro i a hi j hj
  rw [List.getElem?_reverse (by rw [List.length_map]; omega), List.length_map, show w.length - 1 - j = i by omega, List.getElem?_map, hi]
  rfl
 have xi : ∀ j p, (w.map P).reverse[j]? = some p → ∃ i a, i + j + 1 = w.length ∧ w[i]? = some a ∧ P a = p := by
  intro j p hj
  have lj := (List.getElem?_eq_some_iff.mp hj).1
  rw [List.length_reverse, List.length_map] at lj
  rw [List.getElem?_reverse (by rw [List.length_map]; exact lj), List.length_map, List.getElem?_map] at hj
  cases e : w[w.length - 1 - j]? with
  | none => rw [e] at hj; cases hj
  | some a => exact ⟨_, a, by omega, e, by rw [e] at hj; exact Option.some.inj hj⟩
 have dec : (w.map P).Pairwise Lx := by
  have := hul.dec
  rw [List.pairwise_reverse] at this
  exact this
 refine ⟨?_, ?_, dec, sub, ?_⟩
 ·have := hul.bot
  rw [List.getLast?_reverse, List.head?_map, List.head?_map] at this
  cases q with
  | nil => exact absurd rfl ne
  | cons a q =>
   cases w with
   | nil => simp at sne
   | cons b w =>
    have e : P b = P a := by simpa using this
    rw [List.head?_cons, List.head?_cons, inj_of sp (sub b (by simp)) (by simp) e]
 ·have := hul.top
  rw [List.head?_reverse, List.getLast?_map, List.getLast?_map] at this
  cases e1 : w.getLast? with
  | none =>
   rw [List.getLast?_eq_none_iff] at e1
   rw [e1] at sne
   simp at sne
  | some b =>
   cases e2 : q.getLast? with
   | none =>
    rw [List.getLast?_eq_none_iff] at e2
    exact absurd e2 ne
   | some a =>
    rw [e1, e2] at this
    have e : P b = P a := by simpa using this
    rw [inj_of sp (sub b (List.mem_of_getLast? e1)) (List.mem_of_getLast? e2) e]
 ·intro a b ha hb
  constructor
  ·rintro ⟨i, h1, h2⟩
   have l2 := (List.getElem?_eq_some_iff.mp h2).1
   have g1 := ix i a h1 (w.length - 1 - (i + 1) + 1) (by omega)
   have g2 := ix (i + 1) b h2 (w.length - 1 - (i + 1)) (by omega)
   refine ⟨?_, fun k hk => hul.edge _ _ _ g2 g1 _ (List.mem_map_of_mem hk)⟩
   have := List.pairwise_iff_getElem.mp dec i (i + 1) (by rw [List.length_map]; omega) (by rw [List.length_map]; omega) (by omega)
   rw [List.getElem_map, List.getElem_map, (List.getElem?_eq_some_iff.mp h1).2, (List.getElem?_eq_some_iff.mp h2).2] at this
   exact this
  ·rintro ⟨h1, h2⟩
   obtain ⟨i, g1, g2⟩ := hul.all sp sne (List.mem_map_of_mem ha) (List.mem_map_of_mem hb) h1 (fun p hp => by
    obtain ⟨k, hk, rfl⟩ := List.mem_map.mp hp
    exact h2 k hk)
   obtain ⟨x, b', x1, x2, x3⟩ := xi _ _ g1
   obtain ⟨y, a', y1, y2, y3⟩ := xi _ _ g2
   have eb := inj_of sp (sub b' (List.mem_of_getElem? x2)) hb x3
   have ea := inj_of sp (sub a' (List.mem_of_getElem? y2)) ha y3
   subst eb ea
   exact ⟨y, y2, by rw [show y + 1 = x by omega]; exact x2⟩
noncomputable def Btw (a b c : Q2) : Prop := ((a.1 ≤ c.1 ∧ c.1 ≤ b.1) ∨ (b.1 ≤ c.1 ∧ c.1 ≤ a.1)) ∧ ((a.2 ≤ c.2 ∧ c.2 ≤ b.2) ∨ (b.2 ≤ c.2 ∧ c.2 ≤ a.2))
noncomputable instance (a b c : Q2) : Decidable (Btw a b c) := by unfold Btw; infer_instance
theorem Btw.sw {a b c : Q2} : Btw a b c ↔ Btw b a c := by unfold Btw; omega
theorem btw_lx {a b c : Q2} (ab : Lx a b) (t : trn a b c = 0) (ca : c ≠ a) (cb : c ≠ b) : Btw a b c ↔ Lx a c ∧ Lx c b := by
 have na : ¬ (c.1 = a.1 ∧ c.2 = a.2) := fun e => ca (Prod.ext e.1 e.2)
 have nb : ¬ (c.1 = b.1 ∧ c.2 = b.2) := fun e => cb (Prod.ext e.1 e.2)
 unfold trn at t
 have k1 : (b.1 - a.1) * (c.2 - a.2) = (b.2 - a.2) * (c.1 - a.1) := by omega
 have k2 : (b.1 - a.1) * (b.2 - c.2) = (b.2 - a.2) * (b.1 - c.1) := by grind
 clear t
 obtain ⟨a1, a2⟩ := a
 obtain ⟨b1, b2⟩ := b
 obtain ⟨c1, c2⟩ := c
 unfold Lx at *
 unfold Btw
 dsimp only at *
 rcases ab with g | ⟨rfl, g⟩
 ·constructor
  ·rintro ⟨h1, h2⟩
   have e1 : a1 = c1 → c2 = a2 := by
    intro e
    rw [e] at k1 g
    rw [Int.sub_self, Int.mul_zero] at k1
    rcases Int.mul_eq_zero.mp k1 with z | z <;> omega
   have e2 : c1 = b1 → c2 = b2 := by
    intro e
    rw [← e] at k2 g
    rw [Int.sub_self, Int.mul_zero] at k2
    rcases Int.mul_eq_zero.mp k2 with z | z <;> omega
   omega
  ·rintro ⟨h1, h2⟩
   have p1 : 0 ≤ c1 - a1 := by omega
   have p2 : 0 ≤ b1 - c1 := by omega
   refine ⟨by omega, ?_⟩
   rcases Int.le_total a2 b2 with q | q
   ·left
    have m1 := Int.mul_nonneg (show 0 ≤ b2 - a2 by omega) p1
    have m2 := Int.mul_nonneg (show 0 ≤ b2 - a2 by omega) p2
    rw [← k1] at m1
    rw [← k2] at m2
    have := nn_of (show 0 < b1 - a1 by omega) m1
    have := nn_of (show 0 < b1 - a1 by omega) m2
    omega
   ·right
    have m1 := Int.mul_nonneg (show 0 ≤ a2 - b2 by omega) p1
    have m2 := Int.mul_nonneg (show 0 ≤ a2 - b2 by omega) p2
    have e1 : (a2 - b2) * (c1 - a1) = (b1 - a1) * (a2 - c2) := by grind
    have e2 : (a2 - b2) * (b1 - c1) = (b1 - a1) * (c2 - b2) := by grind
    rw [e1] at m1
    rw [e2] at m2
    have := nn_of (show 0 < b1 - a1 by omega) m1
    have := nn_of (show 0 < b1 - a1 by omega) m2
    omega
 ·have e0 : a1 = c1 := by
   rw [Int.sub_self, Int.zero_mul] at k1
   rcases Int.mul_eq_zero.mp k1.symm with z | z <;> omega
  omega
noncomputable def Stp (P : Nat → Q2) (n a b : Nat) : Prop := ∀ k, k < n → k ≠ a → k ≠ b → 0 ≤ trn (P a) (P b) (P k) ∧ (trn (P a) (P b) (P k) = 0 → ¬ Btw (P a) (P b) (P k))
noncomputable instance (P : Nat → Q2) (n a b : Nat) : Decidable (Stp P n a b) := by unfold Stp; infer_instance
theorem stp_up {P : Nat → Q2} {n a b : Nat} {q : List Nat} (mq : ∀ k, k ∈ q ↔ k < n) (inj : ∀ a b, a < n → b < n → P a = P b → a = b) (ha : a < n) (hb : b < n) (ab : Lx (P a) (P b)) : Stp P n a b ↔ UpE P q a b := by
 constructor
 ·refine fun h => ⟨ab, fun k hk => ?_⟩
  by_cases ea : k = a
  ·subst ea
   exact ⟨by rw [trn_self']; exact Int.le_refl _, fun _ g => Lx.irr g.1⟩
  by_cases eb : k = b
  ·subst eb
   exact ⟨by rw [trn_self]; exact Int.le_refl _, fun _ g => Lx.irr g.2⟩
  have lk := (mq k).mp hk
  obtain ⟨h1, h2⟩ := h k lk ea eb
  exact ⟨h1, fun z g => h2 z ((btw_lx ab z (fun e => ea (inj _ _ lk ha e)) (fun e => eb (inj _ _ lk hb e))).mpr g)⟩
 ·rintro ⟨_, h⟩ k lk ea eb
  obtain ⟨h1, h2⟩ := h k ((mq k).mpr lk)
  exact ⟨h1, fun z g => h2 z ((btw_lx ab z (fun e => ea (inj _ _ lk ha e)) (fun e => eb (inj _ _ lk hb e))).mp g)⟩
theorem btw_ng {a b c : Q2} : Btw (ng a) (ng b) (ng c) ↔ Btw a b c := by unfold Btw ng; dsimp only; omega
theorem stp_ng {P : Nat → Q2} {n a b : Nat} : Stp (fun k => ng (P k)) n a b ↔ Stp P n a b := by
 unfold Stp
 simp only [trn_ng, btw_ng]
noncomputable def prv (J : List Nat) (k : Nat) : Nat := if k = 0 then J.length - 1 else k - 1
noncomputable def cyc (J : List Nat) : List (Nat × Nat) := (List.range J.length).map fun k => (J.getD (prv J k) 0, J.getD k 0)
structure RimOk (P : Nat → Q2) (n : Nat) (J : List Nat) : Prop where
 lt : ∀ j ∈ J, j < n
 len : J.length ≤ 24
 pos : 0 < J.length
 least : ∀ i, i < n → i = J.getD 0 0 ∨ Lx (P (J.getD 0 0)) (P i)
 one : n = 1 → J = [0]
 nd : 1 < n → (cyc J).Nodup
 mem : 1 < n → ∀ a b, (a, b) ∈ cyc J ↔ a < n ∧ b < n ∧ a ≠ b ∧ Stp P n a b
theorem nxt_at {w1 w2 : List Nat} (h : w1.getLast? = w2.head?) (n1 : w1 ≠ []) (i a b : Nat) : (w1.dropLast ++ w2)[i]? = some a ∧ (w1.dropLast ++ w2)[i + 1]? = some b ↔ (i + 1 < w1.length ∧ w1[i]? = some a ∧ w1[i + 1]? = some b) ∨ ∃ m, i = w1.length - 1 + m ∧ w2[m]? = some a ∧ w2[m + 1]? = some b := by
 obtain ⟨u, z, rfl⟩ : ∃ u z, w1 = u ++ [z] := by
  rcases List.eq_nil_or_concat w1 with e | ⟨u, z, e⟩
  ·exact absurd e n1
  ·exact ⟨u, z, by simpa using e⟩
 rw [List.getLast?_concat] at h
 cases w2 with
 | nil => cases h
 | cons y v =>
  have : z = y := by simpa using h
  subst this
  rw [List.dropLast_concat]
  have ix : ∀ i, i ≤ u.length → (u ++ z :: v)[i]? = (u ++ [z])[i]? := by
   intro i hi
   rcases Nat.lt_or_eq_of_le hi with g | g
   ·rw [List.getElem?_append_left g, List.getElem?_append_left g]
   ·rw [List.getElem?_append_right (by omega), List.getElem?_append_right (by omega), g, Nat.sub_self]
    rfl
  have lu : (u ++ [z]).length = u.length + 1 := by simp
  rw [lu]
  constructor
  ·rintro ⟨h1, h2⟩
   by_cases c : i + 1 ≤ u.length
   ·exact .inl ⟨by omega, by rw [← ix i (by omega)]; exact h1, by rw [← ix _ c]; exact h2⟩
   ·rw [List.getElem?_append_right (by omega)] at h1 h2
    exact .inr ⟨i - u.length, by omega, h1, by rw [show i - u.length + 1 = i + 1 - u.length by omega]; exact h2⟩
  ·rintro (⟨l, h1, h2⟩ | ⟨m, rfl, h1, h2⟩)
   ·exact ⟨by rw [ix i (by omega)]; exact h1, by rw [ix _ (by omega)]; exact h2⟩
   ·refine ⟨?_, ?_⟩
    ·rw [List.getElem?_append_right (by omega), show u.length + 1 - 1 + m - u.length = m by omega]
     exact h1
    ·rw [List.getElem?_append_right (by omega), show u.length + 1 - 1 + m + 1 - u.length = m + 1 by omega]
     exact h2
theorem nxt_cat {w1 w2 : List Nat} (h : w1.getLast? = w2.head?) (n1 : w1 ≠ []) (a b : Nat) : Nxt (w1.dropLast ++ w2) a b ↔ Nxt w1 a b ∨ Nxt w2 a b := by
 constructor
 ·rintro ⟨i, g⟩
  rcases (nxt_at h n1 i a b).mp g with ⟨_, g⟩ | ⟨m, _, g⟩
  ·exact .inl ⟨i, g⟩
  ·exact .inr ⟨m, g⟩
 ·rintro (⟨i, g⟩ | ⟨m, g⟩)
  ·exact ⟨i, (nxt_at h n1 i a b).mpr (.inl ⟨(List.getElem?_eq_some_iff.mp g.2).1, g⟩)⟩
  ·exact ⟨_, (nxt_at h n1 _ a b).mpr (.inr ⟨m, rfl, g⟩)⟩
theorem pos_one {P : Nat → Q2} {w : List Nat} (d : (w.map P).Pairwise Lx) {i j a : Nat} (hi : w[i]? = some a) (hj : w[j]? = some a) : i = j := by
 obtain ⟨li, ei⟩ := List.getElem?_eq_some_iff.mp hi
 obtain ⟨lj, ej⟩ := List.getElem?_eq_some_iff.mp hj
 have f := List.pairwise_iff_getElem.mp d
 rcases Nat.lt_trichotomy i j with g | rfl | g
 ·have := f i j (by simpa using li) (by simpa using lj) g
  rw [List.getElem_map, List.getElem_map, ei, ej] at this
  exact absurd this Lx.irr
 ·rfl
 ·have := f j i (by simpa using lj) (by simpa using li) g
  rw [List.getElem_map, List.getElem_map, ei, ej] at this
  exact absurd this Lx.irr
theorem cyc_nxt {w1 w2 : List Nat} (h2 : w2.getLast? = w1.head?) (l1 : 2 ≤ w1.length) (l2 : 2 ≤ w2.length) (k : Nat) (hk : k < (w1.dropLast ++ w2.dropLast).length) :
  (w1.dropLast ++ w2)[prv (w1.dropLast ++ w2.dropLast) k]? = some ((w1.dropLast ++ w2.dropLast).getD (prv (w1.dropLast ++ w2.dropLast) k) 0) ∧ (w1.dropLast ++ w2)[prv (w1.dropLast ++ w2.dropLast) k + 1]? = some ((w1.dropLast ++ w2.dropLast).getD k 0) := by
 obtain ⟨u, y, rfl⟩ : ∃ u y, w2 = u ++ [y] := by
  rcases List.eq_nil_or_concat w2 with e | ⟨u, z, e⟩
  ·rw [e] at l2
   simp at l2
  ·exact ⟨u, z, by simpa using e⟩
 rw [List.getLast?_concat] at h2
 match w1, l1 with
 | x :: x' :: w1, _ =>
  have : y = x := by simpa using h2
  subst this
  rw [List.dropLast_concat] at hk ⊢
  have e : (y :: x' :: w1).dropLast = y :: (x' :: w1).dropLast := rfl
  rw [e] at hk ⊢
  rw [← List.append_assoc]
  generalize hJ : y :: (x' :: w1).dropLast ++ u = J at hk ⊢
  have j0 : J[0]? = some y := by rw [← hJ]; rfl
  have lJ : 0 < J.length := by omega
  unfold prv
  by_cases c : k = 0
  ·subst c
   rw [if_pos rfl]
   refine ⟨?_, ?_⟩
   ·rw [List.getElem?_append_left (by omega), List.getD_eq_getElem?_getD, List.getElem?_eq_getElem (by omega)]
    rfl
   ·rw [List.getElem?_append_right (by omega), show J.length - 1 + 1 - J.length = 0 by omega, List.getD_eq_getElem?_getD, j0]
    rfl
  ·rw [if_neg c, show k - 1 + 1 = k by omega]
   refine ⟨?_, ?_⟩
   ·rw [List.getElem?_append_left (by omega), List.getD_eq_getElem?_getD, List.getElem?_eq_getElem (by omega)]
    rfl
   ·rw [List.getElem?_append_left hk, List.getD_eq_getElem?_getD, List.getElem?_eq_getElem hk]
    rfl
theorem prv_inj {J : List Nat} {i j : Nat} (hi : i < J.length) (hj : j < J.length) (e : prv J i = prv J j) : i = j := by
 unfold prv at e
 split at e <;> split at e <;> omega
theorem prv_sur {J : List Nat} {i : Nat} (hi : i < J.length) : ∃ k, k < J.length ∧ prv J k = i := by
 unfold prv
 by_cases c : i + 1 = J.length
 ·exact ⟨0, by omega, by rw [if_pos rfl]; omega⟩
 ·exact ⟨i + 1, by omega, by rw [if_neg (by omega)]; omega⟩
theorem rim_ok {P : Nat → Q2} {n : Nat} {q w1 w2 : List Nat} (pm : q.Perm (List.range n)) (n12 : n ≤ 12) (sp : (q.map P).Pairwise Lx) (l2 : 2 ≤ n)
  (h1 : (w1.map P).reverse = wayS (q.map P)) (s1 : ∀ a ∈ w1, a ∈ q) (c1 : w1.length ≤ q.length) (h2 : (w2.map P).reverse = wayS (q.reverse.map P)) (s2 : ∀ a ∈ w2, a ∈ q.reverse) (c2 : w2.length ≤ q.length) : RimOk P n (w1.dropLast ++ w2.dropLast) := by
 have ql : q.length = n := by rw [pm.length_eq, List.length_range]
 have ne : q ≠ [] := by intro e; rw [e] at ql; simp at ql; omega
 have mq : ∀ k, k ∈ q ↔ k < n := fun k => by rw [pm.mem_iff, List.mem_range]
 have inj : ∀ a b, a < n → b < n → P a = P b → a = b := fun a b ha hb e => inj_of sp ((mq a).mpr ha) ((mq b).mpr hb) e
 have sp2 : (q.reverse.map fun k => ng (P k)).Pairwise Lx := by
  rw [List.map_reverse, List.pairwise_reverse, List.pairwise_map]
  rw [List.pairwise_map] at sp
  exact sp.imp fun h => lx_ng.mpr h
 have h2' : (w2.map fun k => ng (P k)).reverse = wayS (q.reverse.map fun k => ng (P k)) := by
  have : (q.reverse.map fun k => ng (P k)) = (q.reverse.map P).map ng := by rw [List.map_map]; rfl
  rw [this, wayS_ng, ← h2, ← List.map_reverse, ← List.map_reverse, List.map_map]
  rfl
 have k1 := way_ok sp ne h1 s1
 have k2 := way_ok sp2 (by simpa using ne) h2' s2
 obtain ⟨a0, qa⟩ : ∃ a, q.head? = some a := by
  cases q with
  | nil => exact absurd rfl ne
  | cons a q => exact ⟨a, rfl⟩
 obtain ⟨z0, qz⟩ : ∃ z, q.getLast? = some z := by
  cases e : q.getLast? with
  | none => exact absurd (List.getLast?_eq_none_iff.mp e) ne
  | some z => exact ⟨z, rfl⟩
 have nd : q.Nodup := pm.nodup_iff.mpr List.nodup_range
 have az : a0 ≠ z0 := by
  intro e
  rw [List.head?_eq_getElem?] at qa
  rw [List.getLast?_eq_getElem?] at qz
  rw [← e] at qz
  have := pos_one sp qa qz
  omega
 have w1a : w1.head? = some a0 := k1.hd.trans qa
 have w1z : w1.getLast? = some z0 := k1.lt.trans qz
 have w2z : w2.head? = some z0 := by rw [k2.hd, List.head?_reverse, qz]
 have w2a : w2.getLast? = some a0 := by rw [k2.lt, List.getLast?_reverse, qa]
 have len2 : ∀ {w : List Nat} {x y : Nat}, w.head? = some x → w.getLast? = some y → x ≠ y → 2 ≤ w.length := by
  intro w x y hx hy xy
  match w with
  | [] => cases hx
  | [a] =>
   rw [List.head?_cons] at hx
   rw [List.getLast?_singleton] at hy
   exact absurd ((Option.some.inj hx).symm.trans (Option.some.inj hy)) xy
  | _ :: _ :: _ => simp
 have L1 := len2 w1a w1z az
 have L2 := len2 w2z w2a (Ne.symm az)
 have cn := cyc_nxt (w2a.trans w1a.symm) L1 L2
 have nc := nxt_cat (w1z.trans w2z.symm) (by intro e; rw [e] at w1a; cases w1a)
 have nx1 : ∀ a b, Nxt w1 a b → a < n ∧ b < n ∧ Lx (P a) (P b) ∧ Stp P n a b := by
  rintro a b h
  have ha : a ∈ q := by obtain ⟨i, g1, g2⟩ := h; exact s1 a (List.mem_of_getElem? g1)
  have hb : b ∈ q := by obtain ⟨i, g1, g2⟩ := h; exact s1 b (List.mem_of_getElem? g2)
  have u := (k1.edg a b ha hb).mp h
  exact ⟨(mq a).mp ha, (mq b).mp hb, u.1, (stp_up mq inj ((mq a).mp ha) ((mq b).mp hb) u.1).mpr u⟩
 have mq2 : ∀ k, k ∈ q.reverse ↔ k < n := fun k => by rw [List.mem_reverse, mq]
 have inj2 : ∀ a b, a < n → b < n → ng (P a) = ng (P b) → a = b := fun a b ha hb e => inj_of sp2 ((mq2 a).mpr ha) ((mq2 b).mpr hb) e
 have nx2 : ∀ a b, Nxt w2 a b → a < n ∧ b < n ∧ Lx (P b) (P a) ∧ Stp P n a b := by
  rintro a b h
  have ha : a ∈ q.reverse := by obtain ⟨i, g1, g2⟩ := h; exact s2 a (List.mem_of_getElem? g1)
  have hb : b ∈ q.reverse := by obtain ⟨i, g1, g2⟩ := h; exact s2 b (List.mem_of_getElem? g2)
  have u := (k2.edg a b ha hb).mp h
  exact ⟨(mq2 a).mp ha, (mq2 b).mp hb, lx_ng.mp u.1, stp_ng.mp ((stp_up mq2 inj2 ((mq2 a).mp ha) ((mq2 b).mp hb) u.1).mpr u)⟩
 have lenJ : (w1.dropLast ++ w2.dropLast).length = w1.length - 1 + (w2.length - 1) := by rw [List.length_append, List.length_dropLast, List.length_dropLast]
 have J0 : (w1.dropLast ++ w2.dropLast).getD 0 0 = a0 := by
  match w1, w1a, L1 with
  | x :: x' :: w, h, _ =>
   have : x = a0 := by simpa using h
   subst this
   rfl
 have pair : ∀ k, k < (w1.dropLast ++ w2.dropLast).length → Nxt (w1.dropLast ++ w2) ((w1.dropLast ++ w2.dropLast).getD (prv (w1.dropLast ++ w2.dropLast) k) 0) ((w1.dropLast ++ w2.dropLast).getD k 0) := fun k hk => ⟨_, cn k hk⟩
 refine ⟨?_, by omega, by omega, ?_, by omega, fun _ => ?_, fun _ a b => ?_⟩
 ·intro j hj
  rcases List.mem_append.mp hj with g | g
  ·exact (mq j).mp (s1 j ((List.dropLast_sublist _).subset g))
  ·exact (mq2 j).mp (s2 j ((List.dropLast_sublist _).subset g))
 ·intro i hi
  rw [J0]
  have mi := (mq i).mpr hi
  cases q with
  | nil => cases mi
  | cons x q =>
   have : x = a0 := by simpa using qa
   subst this
   rcases List.mem_cons.mp mi with g | g
   ·exact .inl g
   ·rw [List.map_cons] at sp
    exact .inr ((List.pairwise_cons.mp sp).1 _ (List.mem_map_of_mem g))
 ·unfold cyc
  rw [List.Nodup, List.pairwise_map]
  refine List.pairwise_iff_getElem.mpr fun i j hi hj ij => ?_
  rw [List.length_range] at hi hj
  rw [List.getElem_range, List.getElem_range]
  intro e
  have e1 := congrArg Prod.fst e
  have e2 := congrArg Prod.snd e
  dsimp only at e1 e2
  have c1 := cn i hi
  have c2 := cn j hj
  rw [e1, e2] at c1
  have ne' : prv (w1.dropLast ++ w2.dropLast) i ≠ prv (w1.dropLast ++ w2.dropLast) j := fun g => by have := prv_inj hi hj g; omega
  have lx1 : ∀ i a b, w1[i]? = some a → w1[i + 1]? = some b → Lx (P a) (P b) := fun i a b g1 g2 => (nx1 a b ⟨i, g1, g2⟩).2.2.1
  have lx2 : ∀ i a b, w2[i]? = some a → w2[i + 1]? = some b → Lx (P b) (P a) := fun i a b g1 g2 => (nx2 a b ⟨i, g1, g2⟩).2.2.1
  have ht := w1z.trans w2z.symm
  have n1 : w1 ≠ [] := by intro e; rw [e] at w1a; cases w1a
  rcases (nxt_at ht n1 _ _ _).mp c1 with ⟨_, g1, g2⟩ | ⟨m, em, g1, g2⟩ <;> rcases (nxt_at ht n1 _ _ _).mp c2 with ⟨_, g3, g4⟩ | ⟨m', em', g3, g4⟩
  ·exact ne' (pos_one k1.dec g1 g3)
  ·exact (lx1 _ _ _ g1 g2).asymm (lx2 _ _ _ g3 g4)
  ·exact (lx1 _ _ _ g3 g4).asymm (lx2 _ _ _ g1 g2)
  ·have := pos_one k2.dec g1 g3
   omega
 ·unfold cyc
  rw [List.mem_map]
  constructor
  ·rintro ⟨k, hk, e⟩
   have p := pair k (List.mem_range.mp hk)
   have e1 := congrArg Prod.fst e
   have e2 := congrArg Prod.snd e
   dsimp only at e1 e2
   rw [e1, e2] at p
   rcases (nc a b).mp p with g | g
   ·obtain ⟨x1, x2, x3, x4⟩ := nx1 a b g
    exact ⟨x1, x2, fun e => by rw [e] at x3; exact Lx.irr x3, x4⟩
   ·obtain ⟨x1, x2, x3, x4⟩ := nx2 a b g
    exact ⟨x1, x2, fun e => by rw [e] at x3; exact Lx.irr x3, x4⟩
  ·rintro ⟨x1, x2, x3, x4⟩
   have g : Nxt (w1.dropLast ++ w2) a b := by
    refine (nc a b).mpr ?_
    rcases lx_total (P a) (P b) with l | l | l
    ·exact .inl ((k1.edg a b ((mq a).mpr x1) ((mq b).mpr x2)).mpr ((stp_up mq inj x1 x2 l).mp x4))
    ·exact absurd (inj a b x1 x2 l) x3
    ·exact .inr ((k2.edg a b ((mq2 a).mpr x1) ((mq2 b).mpr x2)).mpr ((stp_up mq2 inj2 x1 x2 (lx_ng.mpr l)).mp (stp_ng.mpr x4)))
   obtain ⟨i, g1, g2⟩ := g
   have l2 := (List.getElem?_eq_some_iff.mp g2).1
   rw [List.length_append, List.length_dropLast] at l2
   obtain ⟨k, hk, e⟩ := prv_sur (J := w1.dropLast ++ w2.dropLast) (i := i) (by omega)
   refine ⟨k, List.mem_range.mpr hk, ?_⟩
   obtain ⟨c1, c2⟩ := cn k hk
   rw [e] at c1 c2
   rw [g1] at c1
   rw [g2] at c2
   exact Prod.ext (by rw [e]; exact (Option.some.inj c1).symm) (Option.some.inj c2).symm
theorem rim_one {P : Nat → Q2} : RimOk P 1 [0] := ⟨fun j hj => by rw [List.mem_singleton.mp hj]; decide, by decide, by decide, fun i hi => .inl (by
 show i = 0
 omega), fun _ => rfl, fun h => by omega, fun h => by omega⟩
theorem cyc_len (J : List Nat) : (cyc J).length = J.length := by unfold cyc; rw [List.length_map, List.length_range]
theorem RimOk.same {P : Nat → Q2} {n : Nat} {J J' : List Nat} (h : RimOk P n J) (g : RimOk P n J') (l : 1 < n) : J.length = J'.length := by
 rw [← cyc_len J, ← cyc_len J']
 refine List.Perm.length_eq ((List.perm_ext_iff_of_nodup (h.nd l) (g.nd l)).mpr fun z => ?_)
 rw [h.mem l z.1 z.2, g.mem l z.1 z.2]
end MC
section
open PySem L2 MA PyProof.Rows MC
local macro_rules | `(tactic| o_head ⟨$a0⟩) => `(tactic| simp only [tSeq, List.cons_inj_right, tNext, tIfS, tTest, tOp, tUn, rI, rI0, rU, tVar, tC, tAsg, gName, tRet, tRetN, tDrop, tCall, tCons, tNil, tCB, tTup, tLst, rEq, rNe, ixF, setF, gSub, tPar, tNot, tAnd, tOr, tB, tNotV, tAndV, tOrV, tIf, List.append_nil, List.getElem?_cons_zero, List.getElem?_cons_succ, List.set_cons_zero, List.set_cons_succ, Option.some.injEq, V.int.injEq, V.bl.injEq, V.ref.injEq, exists_eq_left', exists_eq_left, exists_eq_right, exists_and_left, exists_and_right, and_true, true_and, and_assoc, List.cons.injEq, optK_some, seqOf_l, seqOf_t, tYes, tIsN, tNotN, rLenK, tML, tML0, appR, popR, clrR, catF, listF, lenF, slF, tSl, tPart, tNoPart, tyN, isiF, isiT_1, isiT_2, isiT_3, isiT_4, isiT_5, isiT_6, isiT_7, lstOf_l, tup3_some, tup2_some, Option.isSome_some, List.dropLast, List.getLast?, L2.stLC, frV, List.map_cons, List.map_nil, List.replicate_succ, List.replicate_zero, List.cons_append, List.nil_append, List.drop_succ_cons, List.drop_zero, Option.join_some, atI_0, atI_1, atI_2, atI_3, scal, if_true, if_false, Bool.false_eq_true, Bool.true_eq_false, reduceIte, reduceCtorEq, decide_eq_true_eq, Bool.not_eq_true', decide_eq_false_iff_not, eq_self, List.length_cons, List.length_nil, Nat.zero_add, Nat.reduceAdd, Nat.reduceLT, upd_same, Int.cast_ofNat_Int, Int.reduceToNat, Int.reducePow, Int.reduceLE, Int.reduceLT, Int.reduceSub, Int.reduceAdd, Int.reduceMul, Int.reduceNeg, bd10, bd64, bd2, bd3, bd4, ixN_3_0, ixN_3_1, ixN_3_2, ixN_2_0, ixN_2_1, ixN_4_0, ixN_4_1, ixN_4_2, ixN_4_3, ne_eq, Int.reduceEq, not_false_eq_true, not_true_eq_false, false_or, or_false, false_and, and_false, exists_false, exists_const, tCont, tRaise, tRaise0, tTry, tCallS, goneEnds, tPar3, fVar, fI, fI0, fU, fTest, fCons, fNil, fEq, fNe, fNeB, tDg, tDp, dkOf_k, tDisp, tPairs, tDpT, tDNewT, tDgI, tDpI, tDgetI, popAtR, insR, revR, tDNewK, stLam, tSortKI, tSortKT, $a0:term])
local macro_rules | `(tactic| o_head ⟨$a0, $a1⟩) => `(tactic| simp only [tSeq, List.cons_inj_right, tNext, tIfS, tTest, tOp, tUn, rI, rI0, rU, tVar, tC, tAsg, gName, tRet, tRetN, tDrop, tCall, tCons, tNil, tCB, tTup, tLst, rEq, rNe, ixF, setF, gSub, tPar, tNot, tAnd, tOr, tB, tNotV, tAndV, tOrV, tIf, List.append_nil, List.getElem?_cons_zero, List.getElem?_cons_succ, List.set_cons_zero, List.set_cons_succ, Option.some.injEq, V.int.injEq, V.bl.injEq, V.ref.injEq, exists_eq_left', exists_eq_left, exists_eq_right, exists_and_left, exists_and_right, and_true, true_and, and_assoc, List.cons.injEq, optK_some, seqOf_l, seqOf_t, tYes, tIsN, tNotN, rLenK, tML, tML0, appR, popR, clrR, catF, listF, lenF, slF, tSl, tPart, tNoPart, tyN, isiF, isiT_1, isiT_2, isiT_3, isiT_4, isiT_5, isiT_6, isiT_7, lstOf_l, tup3_some, tup2_some, Option.isSome_some, List.dropLast, List.getLast?, L2.stLC, frV, List.map_cons, List.map_nil, List.replicate_succ, List.replicate_zero, List.cons_append, List.nil_append, List.drop_succ_cons, List.drop_zero, Option.join_some, atI_0, atI_1, atI_2, atI_3, scal, if_true, if_false, Bool.false_eq_true, Bool.true_eq_false, reduceIte, reduceCtorEq, decide_eq_true_eq, Bool.not_eq_true', decide_eq_false_iff_not, eq_self, List.length_cons, List.length_nil, Nat.zero_add, Nat.reduceAdd, Nat.reduceLT, upd_same, Int.cast_ofNat_Int, Int.reduceToNat, Int.reducePow, Int.reduceLE, Int.reduceLT, Int.reduceSub, Int.reduceAdd, Int.reduceMul, Int.reduceNeg, bd10, bd64, bd2, bd3, bd4, ixN_3_0, ixN_3_1, ixN_3_2, ixN_2_0, ixN_2_1, ixN_4_0, ixN_4_1, ixN_4_2, ixN_4_3, ne_eq, Int.reduceEq, not_false_eq_true, not_true_eq_false, false_or, or_false, false_and, and_false, exists_false, exists_const, tCont, tRaise, tRaise0, tTry, tCallS, goneEnds, tPar3, fVar, fI, fI0, fU, fTest, fCons, fNil, fEq, fNe, fNeB, tDg, tDp, dkOf_k, tDisp, tPairs, tDpT, tDNewT, tDgI, tDpI, tDgetI, popAtR, insR, revR, tDNewK, stLam, tSortKI, tSortKT, $a0:term, $a1:term])
local macro_rules | `(tactic| o_head ⟨$a0, $a1, $a2⟩) => `(tactic| simp only [tSeq, List.cons_inj_right, tNext, tIfS, tTest, tOp, tUn, rI, rI0, rU, tVar, tC, tAsg, gName, tRet, tRetN, tDrop, tCall, tCons, tNil, tCB, tTup, tLst, rEq, rNe, ixF, setF, gSub, tPar, tNot, tAnd, tOr, tB, tNotV, tAndV, tOrV, tIf, List.append_nil, List.getElem?_cons_zero, List.getElem?_cons_succ, List.set_cons_zero, List.set_cons_succ, Option.some.injEq, V.int.injEq, V.bl.injEq, V.ref.injEq, exists_eq_left', exists_eq_left, exists_eq_right, exists_and_left, exists_and_right, and_true, true_and, and_assoc, List.cons.injEq, optK_some, seqOf_l, seqOf_t, tYes, tIsN, tNotN, rLenK, tML, tML0, appR, popR, clrR, catF, listF, lenF, slF, tSl, tPart, tNoPart, tyN, isiF, isiT_1, isiT_2, isiT_3, isiT_4, isiT_5, isiT_6, isiT_7, lstOf_l, tup3_some, tup2_some, Option.isSome_some, List.dropLast, List.getLast?, L2.stLC, frV, List.map_cons, List.map_nil, List.replicate_succ, List.replicate_zero, List.cons_append, List.nil_append, List.drop_succ_cons, List.drop_zero, Option.join_some, atI_0, atI_1, atI_2, atI_3, scal, if_true, if_false, Bool.false_eq_true, Bool.true_eq_false, reduceIte, reduceCtorEq, decide_eq_true_eq, Bool.not_eq_true', decide_eq_false_iff_not, eq_self, List.length_cons, List.length_nil, Nat.zero_add, Nat.reduceAdd, Nat.reduceLT, upd_same, Int.cast_ofNat_Int, Int.reduceToNat, Int.reducePow, Int.reduceLE, Int.reduceLT, Int.reduceSub, Int.reduceAdd, Int.reduceMul, Int.reduceNeg, bd10, bd64, bd2, bd3, bd4, ixN_3_0, ixN_3_1, ixN_3_2, ixN_2_0, ixN_2_1, ixN_4_0, ixN_4_1, ixN_4_2, ixN_4_3, ne_eq, Int.reduceEq, not_false_eq_true, not_true_eq_false, false_or, or_false, false_and, and_false, exists_false, exists_const, tCont, tRaise, tRaise0, tTry, tCallS, goneEnds, tPar3, fVar, fI, fI0, fU, fTest, fCons, fNil, fEq, fNe, fNeB, tDg, tDp, dkOf_k, tDisp, tPairs, tDpT, tDNewT, tDgI, tDpI, tDgetI, popAtR, insR, revR, tDNewK, stLam, tSortKI, tSortKT, $a0:term, $a1:term, $a2:term])
local macro_rules | `(tactic| o_head ⟨$a0, $a1, $a2, $a3⟩) => `(tactic| simp only [tSeq, List.cons_inj_right, tNext, tIfS, tTest, tOp, tUn, rI, rI0, rU, tVar, tC, tAsg, gName, tRet, tRetN, tDrop, tCall, tCons, tNil, tCB, tTup, tLst, rEq, rNe, ixF, setF, gSub, tPar, tNot, tAnd, tOr, tB, tNotV, tAndV, tOrV, tIf, List.append_nil, List.getElem?_cons_zero, List.getElem?_cons_succ, List.set_cons_zero, List.set_cons_succ, Option.some.injEq, V.int.injEq, V.bl.injEq, V.ref.injEq, exists_eq_left', exists_eq_left, exists_eq_right, exists_and_left, exists_and_right, and_true, true_and, and_assoc, List.cons.injEq, optK_some, seqOf_l, seqOf_t, tYes, tIsN, tNotN, rLenK, tML, tML0, appR, popR, clrR, catF, listF, lenF, slF, tSl, tPart, tNoPart, tyN, isiF, isiT_1, isiT_2, isiT_3, isiT_4, isiT_5, isiT_6, isiT_7, lstOf_l, tup3_some, tup2_some, Option.isSome_some, List.dropLast, List.getLast?, L2.stLC, frV, List.map_cons, List.map_nil, List.replicate_succ, List.replicate_zero, List.cons_append, List.nil_append, List.drop_succ_cons, List.drop_zero, Option.join_some, atI_0, atI_1, atI_2, atI_3, scal, if_true, if_false, Bool.false_eq_true, Bool.true_eq_false, reduceIte, reduceCtorEq, decide_eq_true_eq, Bool.not_eq_true', decide_eq_false_iff_not, eq_self, List.length_cons, List.length_nil, Nat.zero_add, Nat.reduceAdd, Nat.reduceLT, upd_same, Int.cast_ofNat_Int, Int.reduceToNat, Int.reducePow, Int.reduceLE, Int.reduceLT, Int.reduceSub, Int.reduceAdd, Int.reduceMul, Int.reduceNeg, bd10, bd64, bd2, bd3, bd4, ixN_3_0, ixN_3_1, ixN_3_2, ixN_2_0, ixN_2_1, ixN_4_0, ixN_4_1, ixN_4_2, ixN_4_3, ne_eq, Int.reduceEq, not_false_eq_true, not_true_eq_false, false_or, or_false, false_and, and_false, exists_false, exists_const, tCont, tRaise, tRaise0, tTry, tCallS, goneEnds, tPar3, fVar, fI, fI0, fU, fTest, fCons, fNil, fEq, fNe, fNeB, tDg, tDp, dkOf_k, tDisp, tPairs, tDpT, tDNewT, tDgI, tDpI, tDgetI, popAtR, insR, revR, tDNewK, stLam, tSortKI, tSortKT, $a0:term, $a1:term, $a2:term, $a3:term])
local macro_rules | `(tactic| o_head ⟨$a0, $a1, $a2, $a3, $a4⟩) => `(tactic| simp only [tSeq, List.cons_inj_right, tNext, tIfS, tTest, tOp, tUn, rI, rI0, rU, tVar, tC, tAsg, gName, tRet, tRetN, tDrop, tCall, tCons, tNil, tCB, tTup, tLst, rEq, rNe, ixF, setF, gSub, tPar, tNot, tAnd, tOr, tB, tNotV, tAndV, tOrV, tIf, List.append_nil, List.getElem?_cons_zero, List.getElem?_cons_succ, List.set_cons_zero, List.set_cons_succ, Option.some.injEq, V.int.injEq, V.bl.injEq, V.ref.injEq, exists_eq_left', exists_eq_left, exists_eq_right, exists_and_left, exists_and_right, and_true, true_and, and_assoc, List.cons.injEq, optK_some, seqOf_l, seqOf_t, tYes, tIsN, tNotN, rLenK, tML, tML0, appR, popR, clrR, catF, listF, lenF, slF, tSl, tPart, tNoPart, tyN, isiF, isiT_1, isiT_2, isiT_3, isiT_4, isiT_5, isiT_6, isiT_7, lstOf_l, tup3_some, tup2_some, Option.isSome_some, List.dropLast, List.getLast?, L2.stLC, frV, List.map_cons, List.map_nil, List.replicate_succ, List.replicate_zero, List.cons_append, List.nil_append, List.drop_succ_cons, List.drop_zero, Option.join_some, atI_0, atI_1, atI_2, atI_3, scal, if_true, if_false, Bool.false_eq_true, Bool.true_eq_false, reduceIte, reduceCtorEq, decide_eq_true_eq, Bool.not_eq_true', decide_eq_false_iff_not, eq_self, List.length_cons, List.length_nil, Nat.zero_add, Nat.reduceAdd, Nat.reduceLT, upd_same, Int.cast_ofNat_Int, Int.reduceToNat, Int.reducePow, Int.reduceLE, Int.reduceLT, Int.reduceSub, Int.reduceAdd, Int.reduceMul, Int.reduceNeg, bd10, bd64, bd2, bd3, bd4, ixN_3_0, ixN_3_1, ixN_3_2, ixN_2_0, ixN_2_1, ixN_4_0, ixN_4_1, ixN_4_2, ixN_4_3, ne_eq, Int.reduceEq, not_false_eq_true, not_true_eq_false, false_or, or_false, false_and, and_false, exists_false, exists_const, tCont, tRaise, tRaise0, tTry, tCallS, goneEnds, tPar3, fVar, fI, fI0, fU, fTest, fCons, fNil, fEq, fNe, fNeB, tDg, tDp, dkOf_k, tDisp, tPairs, tDpT, tDNewT, tDgI, tDpI, tDgetI, popAtR, insR, revR, tDNewK, stLam, tSortKI, tSortKT, $a0:term, $a1:term, $a2:term, $a3:term, $a4:term])
local macro_rules | `(tactic| o_head ⟨$a0, $a1, $a2, $a3, $a4, $a5⟩) => `(tactic| simp only [tSeq, List.cons_inj_right, tNext, tIfS, tTest, tOp, tUn, rI, rI0, rU, tVar, tC, tAsg, gName, tRet, tRetN, tDrop, tCall, tCons, tNil, tCB, tTup, tLst, rEq, rNe, ixF, setF, gSub, tPar, tNot, tAnd, tOr, tB, tNotV, tAndV, tOrV, tIf, List.append_nil, List.getElem?_cons_zero, List.getElem?_cons_succ, List.set_cons_zero, List.set_cons_succ, Option.some.injEq, V.int.injEq, V.bl.injEq, V.ref.injEq, exists_eq_left', exists_eq_left, exists_eq_right, exists_and_left, exists_and_right, and_true, true_and, and_assoc, List.cons.injEq, optK_some, seqOf_l, seqOf_t, tYes, tIsN, tNotN, rLenK, tML, tML0, appR, popR, clrR, catF, listF, lenF, slF, tSl, tPart, tNoPart, tyN, isiF, isiT_1, isiT_2, isiT_3, isiT_4, isiT_5, isiT_6, isiT_7, lstOf_l, tup3_some, tup2_some, Option.isSome_some, List.dropLast, List.getLast?, L2.stLC, frV, List.map_cons, List.map_nil, List.replicate_succ, List.replicate_zero, List.cons_append, List.nil_append, List.drop_succ_cons, List.drop_zero, Option.join_some, atI_0, atI_1, atI_2, atI_3, scal, if_true, if_false, Bool.false_eq_true, Bool.true_eq_false, reduceIte, reduceCtorEq, decide_eq_true_eq, Bool.not_eq_true', decide_eq_false_iff_not, eq_self, List.length_cons, List.length_nil, Nat.zero_add, Nat.reduceAdd, Nat.reduceLT, upd_same, Int.cast_ofNat_Int, Int.reduceToNat, Int.reducePow, Int.reduceLE, Int.reduceLT, Int.reduceSub, Int.reduceAdd, Int.reduceMul, Int.reduceNeg, bd10, bd64, bd2, bd3, bd4, ixN_3_0, ixN_3_1, ixN_3_2, ixN_2_0, ixN_2_1, ixN_4_0, ixN_4_1, ixN_4_2, ixN_4_3, ne_eq, Int.reduceEq, not_false_eq_true, not_true_eq_false, false_or, or_false, false_and, and_false, exists_false, exists_const, tCont, tRaise, tRaise0, tTry, tCallS, goneEnds, tPar3, fVar, fI, fI0, fU, fTest, fCons, fNil, fEq, fNe, fNeB, tDg, tDp, dkOf_k, tDisp, tPairs, tDpT, tDNewT, tDgI, tDpI, tDgetI, popAtR, insR, revR, tDNewK, stLam, tSortKI, tSortKT, $a0:term, $a1:term, $a2:term, $a3:term, $a4:term, $a5:term])
local macro_rules | `(tactic| o_head ⟨$a0, $a1, $a2, $a3, $a4, $a5, $a6⟩) => `(tactic| simp only [tSeq, List.cons_inj_right, tNext, tIfS, tTest, tOp, tUn, rI, rI0, rU, tVar, tC, tAsg, gName, tRet, tRetN, tDrop, tCall, tCons, tNil, tCB, tTup, tLst, rEq, rNe, ixF, setF, gSub, tPar, tNot, tAnd, tOr, tB, tNotV, tAndV, tOrV, tIf, List.append_nil, List.getElem?_cons_zero, List.getElem?_cons_succ, List.set_cons_zero, List.set_cons_succ, Option.some.injEq, V.int.injEq, V.bl.injEq, V.ref.injEq, exists_eq_left', exists_eq_left, exists_eq_right, exists_and_left, exists_and_right, and_true, true_and, and_assoc, List.cons.injEq, optK_some, seqOf_l, seqOf_t, tYes, tIsN, tNotN, rLenK, tML, tML0, appR, popR, clrR, catF, listF, lenF, slF, tSl, tPart, tNoPart, tyN, isiF, isiT_1, isiT_2, isiT_3, isiT_4, isiT_5, isiT_6, isiT_7, lstOf_l, tup3_some, tup2_some, Option.isSome_some, List.dropLast, List.getLast?, L2.stLC, frV, List.map_cons, List.map_nil, List.replicate_succ, List.replicate_zero, List.cons_append, List.nil_append, List.drop_succ_cons, List.drop_zero, Option.join_some, atI_0, atI_1, atI_2, atI_3, scal, if_true, if_false, Bool.false_eq_true, Bool.true_eq_false, reduceIte, reduceCtorEq, decide_eq_true_eq, Bool.not_eq_true', decide_eq_false_iff_not, eq_self, List.length_cons, List.length_nil, Nat.zero_add, Nat.reduceAdd, Nat.reduceLT, upd_same, Int.cast_ofNat_Int, Int.reduceToNat, Int.reducePow, Int.reduceLE, Int.reduceLT, Int.reduceSub, Int.reduceAdd, Int.reduceMul, Int.reduceNeg, bd10, bd64, bd2, bd3, bd4, ixN_3_0, ixN_3_1, ixN_3_2, ixN_2_0, ixN_2_1, ixN_4_0, ixN_4_1, ixN_4_2, ixN_4_3, ne_eq, Int.reduceEq, not_false_eq_true, not_true_eq_false, false_or, or_false, false_and, and_false, exists_false, exists_const, tCont, tRaise, tRaise0, tTry, tCallS, goneEnds, tPar3, fVar, fI, fI0, fU, fTest, fCons, fNil, fEq, fNe, fNeB, tDg, tDp, dkOf_k, tDisp, tPairs, tDpT, tDNewT, tDgI, tDpI, tDgetI, popAtR, insR, revR, tDNewK, stLam, tSortKI, tSortKT, $a0:term, $a1:term, $a2:term, $a3:term, $a4:term, $a5:term, $a6:term])
local macro_rules | `(tactic| o_head ⟨$a0, $a1, $a2, $a3, $a4, $a5, $a6, $a7⟩) => `(tactic| simp only [tSeq, List.cons_inj_right, tNext, tIfS, tTest, tOp, tUn, rI, rI0, rU, tVar, tC, tAsg, gName, tRet, tRetN, tDrop, tCall, tCons, tNil, tCB, tTup, tLst, rEq, rNe, ixF, setF, gSub, tPar, tNot, tAnd, tOr, tB, tNotV, tAndV, tOrV, tIf, List.append_nil, List.getElem?_cons_zero, List.getElem?_cons_succ, List.set_cons_zero, List.set_cons_succ, Option.some.injEq, V.int.injEq, V.bl.injEq, V.ref.injEq, exists_eq_left', exists_eq_left, exists_eq_right, exists_and_left, exists_and_right, and_true, true_and, and_assoc, List.cons.injEq, optK_some, seqOf_l, seqOf_t, tYes, tIsN, tNotN, rLenK, tML, tML0, appR, popR, clrR, catF, listF, lenF, slF, tSl, tPart, tNoPart, tyN, isiF, isiT_1, isiT_2, isiT_3, isiT_4, isiT_5, isiT_6, isiT_7, lstOf_l, tup3_some, tup2_some, Option.isSome_some, List.dropLast, List.getLast?, L2.stLC, frV, List.map_cons, List.map_nil, List.replicate_succ, List.replicate_zero, List.cons_append, List.nil_append, List.drop_succ_cons, List.drop_zero, Option.join_some, atI_0, atI_1, atI_2, atI_3, scal, if_true, if_false, Bool.false_eq_true, Bool.true_eq_false, reduceIte, reduceCtorEq, decide_eq_true_eq, Bool.not_eq_true', decide_eq_false_iff_not, eq_self, List.length_cons, List.length_nil, Nat.zero_add, Nat.reduceAdd, Nat.reduceLT, upd_same, Int.cast_ofNat_Int, Int.reduceToNat, Int.reducePow, Int.reduceLE, Int.reduceLT, Int.reduceSub, Int.reduceAdd, Int.reduceMul, Int.reduceNeg, bd10, bd64, bd2, bd3, bd4, ixN_3_0, ixN_3_1, ixN_3_2, ixN_2_0, ixN_2_1, ixN_4_0, ixN_4_1, ixN_4_2, ixN_4_3, ne_eq, Int.reduceEq, not_false_eq_true, not_true_eq_false, false_or, or_false, false_and, and_false, exists_false, exists_const, tCont, tRaise, tRaise0, tTry, tCallS, goneEnds, tPar3, fVar, fI, fI0, fU, fTest, fCons, fNil, fEq, fNe, fNeB, tDg, tDp, dkOf_k, tDisp, tPairs, tDpT, tDNewT, tDgI, tDpI, tDgetI, popAtR, insR, revR, tDNewK, stLam, tSortKI, tSortKT, $a0:term, $a1:term, $a2:term, $a3:term, $a4:term, $a5:term, $a6:term, $a7:term])
local macro_rules | `(tactic| o_head ⟨$a0, $a1, $a2, $a3, $a4, $a5, $a6, $a7, $a8, $a9, $a10, $a11⟩) => `(tactic| simp only [tSeq, List.cons_inj_right, tNext, tIfS, tTest, tOp, tUn, rI, rI0, rU, tVar, tC, tAsg, gName, tRet, tRetN, tDrop, tCall, tCons, tNil, tCB, tTup, tLst, rEq, rNe, ixF, setF, gSub, tPar, tNot, tAnd, tOr, tB, tNotV, tAndV, tOrV, tIf, List.append_nil, List.getElem?_cons_zero, List.getElem?_cons_succ, List.set_cons_zero, List.set_cons_succ, Option.some.injEq, V.int.injEq, V.bl.injEq, V.ref.injEq, exists_eq_left', exists_eq_left, exists_eq_right, exists_and_left, exists_and_right, and_true, true_and, and_assoc, List.cons.injEq, optK_some, seqOf_l, seqOf_t, tYes, tIsN, tNotN, rLenK, tML, tML0, appR, popR, clrR, catF, listF, lenF, slF, tSl, tPart, tNoPart, tyN, isiF, isiT_1, isiT_2, isiT_3, isiT_4, isiT_5, isiT_6, isiT_7, lstOf_l, tup3_some, tup2_some, Option.isSome_some, List.dropLast, List.getLast?, L2.stLC, frV, List.map_cons, List.map_nil, List.replicate_succ, List.replicate_zero, List.cons_append, List.nil_append, List.drop_succ_cons, List.drop_zero, Option.join_some, atI_0, atI_1, atI_2, atI_3, scal, if_true, if_false, Bool.false_eq_true, Bool.true_eq_false, reduceIte, reduceCtorEq, decide_eq_true_eq, Bool.not_eq_true', decide_eq_false_iff_not, eq_self, List.length_cons, List.length_nil, Nat.zero_add, Nat.reduceAdd, Nat.reduceLT, upd_same, Int.cast_ofNat_Int, Int.reduceToNat, Int.reducePow, Int.reduceLE, Int.reduceLT, Int.reduceSub, Int.reduceAdd, Int.reduceMul, Int.reduceNeg, bd10, bd64, bd2, bd3, bd4, ixN_3_0, ixN_3_1, ixN_3_2, ixN_2_0, ixN_2_1, ixN_4_0, ixN_4_1, ixN_4_2, ixN_4_3, ne_eq, Int.reduceEq, not_false_eq_true, not_true_eq_false, false_or, or_false, false_and, and_false, exists_false, exists_const, tCont, tRaise, tRaise0, tTry, tCallS, goneEnds, tPar3, fVar, fI, fI0, fU, fTest, fCons, fNil, fEq, fNe, fNeB, tDg, tDp, dkOf_k, tDisp, tPairs, tDpT, tDNewT, tDgI, tDpI, tDgetI, popAtR, insR, revR, tDNewK, stLam, tSortKI, tSortKT, $a0:term, $a1:term, $a2:term, $a3:term, $a4:term, $a5:term, $a6:term, $a7:term, $a8:term, $a9:term, $a10:term, $a11:term])
namespace LW
open PySem L2 MA PyProof.Rows
noncomputable def top (i : Nat) : Stmt := PySem.Challenge.pw_nearlands_k56_rims.main.body.getD i (.Pass ⟨0, 0, 0, 0⟩)
noncomputable abbrev s_divisor : Stmt := top 6
noncomputable abbrev s_sign : Stmt := top 7
noncomputable abbrev s_point_of : Stmt := top 9
noncomputable abbrev s_spot_point : Stmt := top 10
noncomputable abbrev s_fraction_of : Stmt := top 11
noncomputable abbrev s_less : Stmt := top 12
noncomputable abbrev s_ahead : Stmt := top 13
noncomputable abbrev s_turn : Stmt := top 14
noncomputable abbrev s_check_count : Stmt := top 17
noncomputable abbrev s_check_spots : Stmt := top 18
noncomputable abbrev s_by_place : Stmt := top 19
noncomputable abbrev s_lead : Stmt := top 22
noncomputable abbrev s_point_along : Stmt := top 23
noncomputable abbrev s_reach_within : Stmt := top 21
noncomputable abbrev s_reaches : Stmt := top 24
noncomputable abbrev s_ties : Stmt := top 25
noncomputable abbrev s_spot_turn : Stmt := top 26
noncomputable abbrev s_outer_way : Stmt := top 28
noncomputable abbrev s_rim : Stmt := top 27
noncomputable abbrev s__law_feed : Stmt := top 30
noncomputable abbrev s__law_next : Stmt := top 31
noncomputable abbrev s__law_great : Stmt := top 32
noncomputable abbrev s__law_spot : Stmt := top 33
noncomputable abbrev s__law_spots : Stmt := top 34
noncomputable abbrev s__law_between : Stmt := top 35
noncomputable abbrev s__law_is_step : Stmt := top 36
noncomputable abbrev s_law : Stmt := top 37
theorem hu65 {A : Around} {k : Nat} (hr : Room k A) : A.units + 65 < cLine := by have := hr.un; omega
theorem hu64 {A : Around} {k : Nat} (hr : Room k A) : A.units + 64 < cLine := hr.units
structure Cz where
 lc_by_place : Addr
 lp_by_place : Addr
noncomputable def tg_by_place : Array Value := L2.tagL 59 41 "by_place.<locals>.<lambda>"
structure Txt (K : PySem.W.Frag) (mg : Str → Option Value) (C : Cz) : Prop where
 b_abs : mg "abs" = none
 b_all : mg "all" = none
 b_enumerate : mg "enumerate" = none
 b_isinstance : mg "isinstance" = none
 b_len : mg "len" = none
 b_list : mg "list" = none
 b_max : mg "max" = none
 b_min : mg "min" = none
 b_range : mg "range" = none
 b_sorted : mg "sorted" = none
 n_MOST_SPOTS : ∃ t, mg "MOST_SPOTS" = some (.int 12 t)
end LW
namespace LW
open PySem L2 MA PyProof.Rows MC
noncomputable abbrev P2 := Int × Int
noncomputable abbrev P3 := Int × Int × Int
noncomputable def R2At (H : Hp) (qs : List Addr) (rs : List P2) : Prop := qs.length = rs.length ∧ ∀ (i : Nat) (q : Addr) (z : P2), qs[i]? = some q → rs[i]? = some z → H q = some (.tup [.int z.1, .int z.2])
theorem R2At.ext {H H' : Hp} {qs : List Addr} {rs : List P2} (h : R2At H qs rs) (x : Ext H H') : R2At H' qs rs := ⟨h.1, fun i q z a b => x _ _ (h.2 i q z a b)⟩
theorem R2At.at {H : Hp} {qs : List Addr} {rs : List P2} (h : R2At H qs rs) {i : Nat} {q : Addr} (hq : qs[i]? = some q) : ∃ r, rs[i]? = some r ∧ H q = some (.tup [.int r.1, .int r.2]) := by
 have li := (List.getElem?_eq_some_iff.mp hq).1
 have e := List.getElem?_eq_getElem (l := rs) (i := i) (by rw [← h.1]; exact li)
 exact ⟨_, e, h.2 i q _ hq e⟩
theorem refs_get {qs : List Addr} {i : Nat} {v : V} (h : (qs.map V.ref)[i]? = some v) : ∃ q, qs[i]? = some q ∧ v = .ref q := by
 rw [List.getElem?_map] at h
 cases e : qs[i]? with
 | none => rw [e] at h; cases h
 | some q => rw [e] at h; exact ⟨q, rfl, (Option.some.inj h).symm⟩
theorem refs_at {qs : List Addr} {r : Int} (h0 : 0 ≤ r) (h1 : r < qs.length) : ∃ (i : Nat) (q : Addr), r = (i : Int) ∧ qs[i]? = some q ∧ atI (qs.map V.ref) r = some (.ref q) := by
 obtain ⟨i, rfl⟩ := Int.eq_ofNat_of_zero_le h0
 have li : i < qs.length := by omega
 exact ⟨i, qs[i], rfl, List.getElem?_eq_getElem li, atI_nat (by rw [List.getElem?_map, List.getElem?_eq_getElem li]; rfl)⟩
theorem Ext.none {H H' : Hp} {b : Addr} (f : Ext H H') (h : H' b = none) : H b = none := by
 cases q : H b with
 | none => rfl
 | some o =>
  rw [f b o q] at h
  cases h
theorem cut_to (xs : List V) (k : Nat) : cutV xs none (some (k : Int)) = xs.take k := by
 unfold cutV
 rw [HT.sIx_nat, HT.sIx_none, List.drop_zero, Nat.sub_zero]
 by_cases h : k ≤ xs.length
 ·rw [Nat.min_eq_left h]
 ·rw [Nat.min_eq_right (by omega), List.take_length, List.take_of_length_le (by omega)]
structure SpOk (H : Hp) (b l : Addr) (x y u v : Int) (qs : List Addr) (rs : List P2) : Prop where
 bx : H b = some (.tup [.int x, .int y, .int u, .int v])
 sp : H l = some (.lst (qs.map V.ref))
 at_ : R2At H qs rs
 xu : x < u
 yv : y < v
 ins : ∀ r ∈ rs, x ≤ r.1 ∧ r.1 ≤ u ∧ y ≤ r.2 ∧ r.2 ≤ v
 nd : rs.Nodup
 n0 : 0 < rs.length
 n12 : rs.length ≤ 12
 sz : (-(4 * 10 ^ 30) ≤ x ∧ u ≤ 4 * 10 ^ 30) ∧ (-(4 * 10 ^ 30) ≤ y ∧ v ≤ 4 * 10 ^ 30)
theorem SpOk.ext {H H' : Hp} {b l : Addr} {x y u v : Int} {qs : List Addr} {rs : List P2} (h : SpOk H b l x y u v qs rs) (e : Ext H H') : SpOk H' b l x y u v qs rs :=
 ⟨e _ _ h.bx, e _ _ h.sp, h.at_.ext e, h.xu, h.yv, h.ins, h.nd, h.n0, h.n12, h.sz⟩
theorem bd29 {n : Int} (h1 : -(4 * 10 ^ 30) ≤ n) (h2 : n ≤ 4 * 10 ^ 30) (m : Nat) (hm : 110 ≤ m := by decide) : Bd m n := Bd.mono (m := 110) (Bd.of_le (4 * 10 ^ 30) h1 h2 (by decide)) hm
theorem SpOk.b2 {H : Hp} {b l : Addr} {x y u v : Int} {qs : List Addr} {rs : List P2} (h : SpOk H b l x y u v qs rs) {r : P2} (hr : r ∈ rs) : B2 200 r := by
 have := h.ins r hr
 have z := h.sz
 exact ⟨bd29 (by omega) (by omega) 200, bd29 (by omega) (by omega) 200⟩
noncomputable def t2d (r : P2) : PyData := .tuple [.int r.1, .int r.2]
theorem rdy_rs {K : PySem.W.Frag} {H : Hp} : ∀ {qs : List Addr} {rs : List P2}, R2At H qs rs → RdyAll K H (qs.map V.ref) (rs.map t2d)
 | [], [], _ => .nil
 | [], _ :: _, h => by simp [R2At] at h
 | _ :: _, [], h => by simp [R2At] at h
 | p :: ps, c :: cs, h => .cons (rdy_t2 (h.2 0 p c rfl rfl)) (rdy_rs ⟨by simpa using h.1, fun i q z h1 h2 => h.2 (i + 1) q z h1 h2⟩)
theorem R2At.take {H : Hp} {qs : List Addr} {rs : List P2} (h : R2At H qs rs) (k : Nat) : R2At H (qs.take k) (rs.take k) := by
 refine ⟨by rw [List.length_take, List.length_take, h.1], fun i q z h1 h2 => ?_⟩
 by_cases hi : i < k
 ·rw [List.getElem?_take_of_lt hi] at h1 h2
  exact h.2 i q z h1 h2
 ·rw [List.getElem?_eq_none (by rw [List.length_take]; omega)] at h1
  cases h1
theorem lay_rs : ∀ rs : List P2, PyData.canLayAll0 (rs.map t2d) = true ∧ PyData.depthAll (rs.map t2d) ≤ 1
 | [] => ⟨rfl, by simp [PyData.depthAll]⟩
 | c :: cs => by
  obtain ⟨a, b⟩ := lay_rs cs
  constructor
  ·simp [t2d, PyData.canLayAll0, PyData.canLay0]
   exact a
  ·simp [t2d, PyData.depthAll, PyData.depth] at b ⊢
   omega
theorem shaped_rs (rs : List P2) : SeqAt.shaped (.list (rs.map t2d)) = true := by
 obtain ⟨a, b⟩ := lay_rs rs
 unfold SeqAt.shaped
 rw [Bool.and_eq_true, decide_eq_true_eq]
 exact ⟨by simp [PyData.canLay0, a], by simp [PyData.depth]; omega⟩
theorem shaped_t2 (r : P2) : SeqAt.shaped (t2d r) = true := by
 simp [t2d, SeqAt.shaped, PyData.canLay0, PyData.canLayAll0, PyData.depth, PyData.depthAll]
theorem nomix_t2 (a b : P2) : SeqAt.noMix (t2d a) (t2d b) = true := by
 simp [t2d, SeqAt.noMix, SeqAt.noMixAll]
theorem not_before {rs : List P2} (hn : rs.Nodup) {i : Nat} {r : P2} (hi : rs[i]? = some r) : decide (Spec.countIn (t2d r) ((rs.take i).map t2d) ≠ 0) = false := by
 rw [← any_eqv_countIn _ _ (fun y hy => by obtain ⟨z, _, rfl⟩ := List.mem_map.mp hy; exact nomix_t2 z r)]
 rw [List.any_eq_false]
 intro y hy
 obtain ⟨z, hz, rfl⟩ := List.mem_map.mp hy
 show ¬ PyData.eqv (.tuple [.int z.1, .int z.2]) (.tuple [.int r.1, .int r.2]) = true
 rw [eqv_t2, decide_eq_true_eq]
 rintro ⟨e1, e2⟩
 have ez : z = r := Prod.ext e1 e2
 subst ez
 obtain ⟨j, hj⟩ := List.getElem?_of_mem hz
 have lj := (List.getElem?_eq_some_iff.mp hj).1
 rw [List.length_take] at lj
 rw [List.getElem?_take_of_lt (by omega)] at hj
 obtain ⟨h1, e1⟩ := List.getElem?_eq_some_iff.mp hi
 obtain ⟨h2, e2⟩ := List.getElem?_eq_some_iff.mp hj
 have := (List.getElem_inj (h₀ := h1) (h₁ := h2) hn).mp (e1.trans e2.symm)
 omega
structure LpOk (H : Hp) (l : Addr) (qs : List Addr) (rs : List P2) : Prop where
 sp : H l = some (.lst (qs.map V.ref))
 at_ : R2At H qs rs
 nd : rs.Nodup
 n0 : 0 < rs.length
 n12 : rs.length ≤ 12
 sz : ∀ r ∈ rs, Bd 101 r.1 ∧ Bd 101 r.2
theorem LpOk.ext {H H' : Hp} {l : Addr} {qs : List Addr} {rs : List P2} (h : LpOk H l qs rs) (e : Ext H H') : LpOk H' l qs rs := ⟨e _ _ h.sp, h.at_.ext e, h.nd, h.n0, h.n12, h.sz⟩
theorem LpOk.get {H : Hp} {l : Addr} {qs : List Addr} {rs : List P2} (h : LpOk H l qs rs) {i : Nat} {r : P2} (hi : rs[i]? = some r) : ∃ q, qs[i]? = some q ∧ H q = some (.tup [.int r.1, .int r.2]) ∧ atI (qs.map V.ref) (i : Int) = some (.ref q) ∧ Bd 101 r.1 ∧ Bd 101 r.2 := by
 obtain ⟨q, hq⟩ : ∃ q, qs[i]? = some q := ⟨_, List.getElem?_eq_getElem (by rw [h.at_.1]; exact (List.getElem?_eq_some_iff.mp hi).1)⟩
 exact ⟨q, hq, h.at_.2 i q r hq hi, atI_nat (by rw [List.getElem?_map, hq]; rfl), h.sz r (List.mem_of_getElem? hi)⟩
noncomputable def sp_divisor : Sp := fun vs H Q _ => ∃ a b : Int, vs = [.int a, .int b] ∧ Q (.int (Int.gcd a b : Int)) H
noncomputable def sp_sign : Sp := fun vs H Q _ => ∃ n : Int, vs = [.int n] ∧ Q (.int (sgn n)) H
noncomputable def sp_point_of : Sp := fun vs H Q _ => ∃ x y w : Int, vs = [.int x, .int y, .int w] ∧ w ≠ 0 ∧ Bd 8000 w ∧
 ∀ p a b c, H p = none → IsPt x y w a b c → Q (.ref p) (upd H p (.tup [.int a, .int b, .int c]))
noncomputable def sp_spot_point : Sp := fun vs H Q _ => ∃ (p : Addr) (a b : Int), vs = [.ref p] ∧ H p = some (.tup [.int a, .int b]) ∧ ∀ t, H t = none → Q (.ref t) (upd H t (.tup [.int a, .int b, .int 1]))
noncomputable def sp_fraction_of : Sp := fun vs H Q _ => ∃ x w : Int, vs = [.int x, .int w] ∧ w ≠ 0 ∧ Bd 8000 w ∧
 ∀ p a c, H p = none → IsFr x w a c → Q (.ref p) (upd H p (.tup [.int a, .int c]))
noncomputable def sp_less : Sp := fun vs H Q _ => ∃ (p q : Addr) (a b c d : Int), vs = [.ref p, .ref q] ∧ H p = some (.tup [.int a, .int b]) ∧ H q = some (.tup [.int c, .int d]) ∧ (Bd 2000 a ∧ Bd 2000 b ∧ Bd 2000 c ∧ Bd 2000 d) ∧ Q (.bl (decide (a * d < c * b))) H
noncomputable def aheadB (a b c d e f : Int) : Bool := if ¬ (a * f - d * c = 0) then decide (a * f - d * c < 0) else decide (b * f < e * c)
noncomputable def sp_ahead : Sp := fun vs H Q _ => ∃ (p q : Addr), vs = [.ref p, .ref q] ∧ optK (tup3 (H p)) fun x => optK (tup3 (H q)) fun y => B3 2000 x ∧ B3 2000 y ∧ Q (.bl (aheadB x.1 x.2.1 x.2.2 y.1 y.2.1 y.2.2)) H
noncomputable def det3 (a b c d e f g h i : Int) : Int := a * (e * i - h * f) - b * (d * i - g * f) + c * (d * h - g * e)
noncomputable def sp_turn : Sp := fun vs H Q _ => ∃ (p q r : Addr), vs = [.ref p, .ref q, .ref r] ∧ optK (tup3 (H p)) fun x => optK (tup3 (H q)) fun y => optK (tup3 (H r)) fun z => B3 2000 x ∧ B3 2000 y ∧ B3 2000 z ∧ Q (.int (sgn (det3 x.1 x.2.1 x.2.2 y.1 y.2.1 y.2.2 z.1 z.2.1 z.2.2))) H
noncomputable def sp_check_count : Sp := fun vs H Q _ => ∃ (l : Addr) (xs : List V), vs = [.ref l] ∧ H l = some (.lst xs) ∧ 0 < xs.length ∧ xs.length ≤ 12 ∧ Q .non H
noncomputable def sp_cs (K : PySem.W.Frag) : Sp := fun vs H Q _ => ∃ (l : Addr) (qs : List Addr) (rs : List P2), vs = [.ref l] ∧ LpOk H l qs rs ∧ ∀ H', Ext H H' → Q .non H'
noncomputable def wOf (rs : List P2) (i : Nat) : List Int := [(rs.getD i (0, 0)).1, (rs.getD i (0, 0)).2]
noncomputable def PlQ (rs : List P2) (q : List Nat) : Prop := q.Perm (List.range rs.length) ∧ q.Pairwise fun a b => HT.lexLt (wOf rs b) (wOf rs a) = false
noncomputable def natsV (q : List Nat) : List V := (q.map fun i : Nat => (i : Int)).map V.int
theorem atV_range {n i : Nat} (h : i < n) : atV ((List.range n).map fun j : Nat => V.int (j : Int)) i = .int (i : Int) := by
 have e := atV_get (xs := (List.range n).map fun j : Nat => V.int (j : Int)) (i := i) (by simpa using h)
 rw [List.getElem?_map, List.getElem?_range h] at e
 exact (Option.some.inj e).symm
noncomputable def sp_place (K : PySem.W.Frag) (C : Cz) : Sp := fun vs H Q _ => ∃ (l : Addr) (qs : List Addr) (rs : List P2), vs = [.ref l] ∧ H l = some (.lst (qs.map V.ref)) ∧ R2At H qs rs ∧ rs.length ≤ 12 ∧ H C.lp_by_place = some (.tbl tg_by_place) ∧
 ∀ t H' q, Ext H H' → H t = none → PlQ rs q → H' t = some (.lst (natsV q)) → Q (.ref t) H'
noncomputable def slp (A B D : P2) : Int := 2 * ((A.2 - B.2) * (A.1 - D.1) + (B.1 - A.1) * (A.2 - D.2))
noncomputable def ris (A B D : P2) : Int := (A.1 + B.1) * (A.1 - D.1) + (A.2 + B.2) * (A.2 - D.2) + D.1 * D.1 + D.2 * D.2 - A.1 * A.1 - A.2 * A.2
theorem slp_bd {A B D : P2} (hA : Bd 101 A.1 ∧ Bd 101 A.2) (hB : Bd 101 B.1 ∧ Bd 101 B.2) (hD : Bd 101 D.1 ∧ Bd 101 D.2) : Bd 1700 (slp A B D) ∧ Bd 1700 (ris A B D) := by
 have two : Bd 2 2 := Bd.of_le 2 (by decide) (by decide) (by decide)
 constructor
 ·exact (two.mul (((hA.2.sub hB.2).mul (hA.1.sub hD.1)).add ((hB.1.sub hA.1).mul (hA.2.sub hD.2)))).mono (by decide)
 ·exact (((((((hA.1.add hB.1).mul (hA.1.sub hD.1)).add ((hA.2.add hB.2).mul (hA.2.sub hD.2))).add (hD.1.mul hD.1)).add (hD.2.mul hD.2)).sub (hA.1.mul hA.1)).sub (hA.2.mul hA.2)).mono (by decide)
noncomputable def sp_lead : Sp := fun vs H Q _ => ∃ (p q r : Addr) (A B D : P2), vs = [.ref p, .ref q, .ref r] ∧ H p = some (.tup [.int A.1, .int A.2]) ∧ H q = some (.tup [.int B.1, .int B.2]) ∧ H r = some (.tup [.int D.1, .int D.2]) ∧ (Bd 101 A.1 ∧ Bd 101 A.2) ∧ (Bd 101 B.1 ∧ Bd 101 B.2) ∧ (Bd 101 D.1 ∧ Bd 101 D.2) ∧ ∀ t, H t = none → Q (.ref t) (upd H t (.tup [.int (slp A B D), .int (ris A B D)]))
noncomputable def FrV (H : Hp) (w : V) (o : Option (Int × Int)) : Prop := match o with
 | none => w = .non
 | some z => ∃ t, w = .ref t ∧ H t = some (.tup [.int z.1, .int z.2]) ∧ 0 < z.2 ∧ Bd 1700 z.1 ∧ Bd 1700 z.2
theorem FrV.ext {H H' : Hp} {w : V} {o : Option (Int × Int)} (h : FrV H w o) (x : Ext H H') : FrV H' w o := by
 cases o with
 | none => exact h
 | some z =>
  obtain ⟨t, h1, h2, h3⟩ := h
  exact ⟨t, h1, x _ _ h2, h3⟩
noncomputable def alX (A B : P2) (z : Int × Int) : Int := (A.1 + B.1) * z.2 + 2 * (A.2 - B.2) * z.1
noncomputable def alY (A B : P2) (z : Int × Int) : Int := (A.2 + B.2) * z.2 + 2 * (B.1 - A.1) * z.1
noncomputable def PlV (H : Hp) (w : V) (A B : P2) (o : Option (Int × Int)) : Prop := match o with
 | none => w = .non
 | some z => ∃ t a b c, w = .ref t ∧ H t = some (.tup [.int a, .int b, .int c]) ∧ IsPt (alX A B z) (alY A B z) (2 * z.2) a b c
theorem PlV.ext {H H' : Hp} {w : V} {A B : P2} {o : Option (Int × Int)} (h : PlV H w A B o) (x : Ext H H') : PlV H' w A B o := by
 cases o with
 | none => exact h
 | some z =>
  obtain ⟨t, a, b, c, h1, h2, h3⟩ := h
  exact ⟨t, a, b, c, h1, x _ _ h2, h3⟩
noncomputable def sp_palong : Sp := fun vs H Q _ => ∃ (p q : Addr) (w : V) (A B : P2) (o : Option (Int × Int)), vs = [.ref p, .ref q, w] ∧ H p = some (.tup [.int A.1, .int A.2]) ∧ H q = some (.tup [.int B.1, .int B.2]) ∧ (Bd 101 A.1 ∧ Bd 101 A.2) ∧ (Bd 101 B.1 ∧ Bd 101 B.2) ∧ FrV H w o ∧ ∀ v H', Ext H H' → PlV H' v A B o → Q v H'
noncomputable def LoOk (A B : P2) (S : List P2) (o : Option (Int × Int)) : Prop := match o with
 | none => ∀ D ∈ S, ¬ 0 < slp A B D
 | some z => 0 < z.2 ∧ (∃ D ∈ S, 0 < slp A B D ∧ z.1 * slp A B D = -(ris A B D) * z.2) ∧ ∀ D ∈ S, 0 < slp A B D → 0 ≤ z.1 * slp A B D + ris A B D * z.2
noncomputable def HiOk (A B : P2) (S : List P2) (o : Option (Int × Int)) : Prop := match o with
 | none => ∀ D ∈ S, ¬ slp A B D < 0
 | some z => 0 < z.2 ∧ (∃ D ∈ S, slp A B D < 0 ∧ z.1 * slp A B D = -(ris A B D) * z.2) ∧ ∀ D ∈ S, slp A B D < 0 → 0 ≤ z.1 * slp A B D + ris A B D * z.2
theorem mem_snoc {α : Type} {S : List α} {D x : α} (h : x ∈ S ++ [D]) : x ∈ S ∨ x = D := by
 rcases List.mem_append.mp h with q | q
 ·exact .inl q
 ·exact .inr (List.mem_singleton.mp q)
theorem cmp_up {a b c d s r : Int} (hb : 0 < b) (hd : 0 < d) (hs : 0 ≤ s) (h : a * d ≤ c * b) (k : 0 ≤ a * s + r * b) : 0 ≤ c * s + r * d := by
 have h1 := Int.mul_le_mul_of_nonneg_right h hs
 have h2 := Int.mul_nonneg (Int.le_of_lt hd) k
 have h3 : 0 ≤ b * (c * s + r * d) := by
  have e1 : d * (a * s + r * b) = a * d * s + r * b * d := by grind
  have e2 : b * (c * s + r * d) = c * b * s + r * b * d := by grind
  omega
 exact Int.le_of_mul_le_mul_left (a := b) (by rw [Int.mul_zero]; exact h3) hb
theorem cmp_dn {a b c d s r : Int} (hb : 0 < b) (hd : 0 < d) (hs : s ≤ 0) (h : c * b ≤ a * d) (k : 0 ≤ a * s + r * b) : 0 ≤ c * s + r * d := by
 have := cmp_up (a := -a) (b := b) (c := -c) (d := d) (s := -s) (r := r) hb hd (by omega) (by rw [Int.neg_mul, Int.neg_mul]; omega) (by rw [Int.neg_mul_neg]; exact k)
 rw [Int.neg_mul_neg] at this
 exact this
theorem LoOk.keep {A B D : P2} {S : List P2} {o : Option (Int × Int)} (h : LoOk A B S o) (hD : ¬ 0 < slp A B D) : LoOk A B (S ++ [D]) o := by
 cases o with
 | none => exact fun x hx => (mem_snoc hx).elim (h x) fun e => e ▸ hD
 | some z =>
  obtain ⟨h0, ⟨x, hx, h1⟩, h2⟩ := h
  exact ⟨h0, ⟨x, List.mem_append_left _ hx, h1⟩, fun y hy q => (mem_snoc hy).elim (fun g => h2 y g q) fun e => absurd (e ▸ q) hD⟩
theorem HiOk.keep {A B D : P2} {S : List P2} {o : Option (Int × Int)} (h : HiOk A B S o) (hD : ¬ slp A B D < 0) : HiOk A B (S ++ [D]) o := by
 cases o with
 | none => exact fun x hx => (mem_snoc hx).elim (h x) fun e => e ▸ hD
 | some z =>
  obtain ⟨h0, ⟨x, hx, h1⟩, h2⟩ := h
  exact ⟨h0, ⟨x, List.mem_append_left _ hx, h1⟩, fun y hy q => (mem_snoc hy).elim (fun g => h2 y g q) fun e => absurd (e ▸ q) hD⟩
theorem LoOk.new {A B D : P2} {S : List P2} {o : Option (Int × Int)} {a b : Int} (h : LoOk A B S o) (hD : 0 < slp A B D) (hf : IsFr (-(ris A B D)) (slp A B D) a b) (hl : ∀ z, o = some z → z.1 * b < a * z.2) : LoOk A B (S ++ [D]) (some (a, b)) := by
 have hb := hf.pos
 refine ⟨hb, ⟨D, by simp, hD, hf.ex⟩, fun y hy q => ?_⟩
 rcases mem_snoc hy with g | e
 ·cases o with
  | none => exact absurd q (h y g)
  | some z => exact cmp_up h.1 hb (Int.le_of_lt q) (Int.le_of_lt (hl z rfl)) (h.2.2 y g q)
 ·subst e
  have := hf.ex
  dsimp only
  rw [this, Int.neg_mul]
  omega
theorem LoOk.old {A B D : P2} {S : List P2} {z : Int × Int} {a b : Int} (h : LoOk A B S (some z)) (hD : 0 < slp A B D) (hf : IsFr (-(ris A B D)) (slp A B D) a b) (hl : ¬ z.1 * b < a * z.2) : LoOk A B (S ++ [D]) (some z) := by
 obtain ⟨h0, ⟨x, hx, h1⟩, h2⟩ := h
 refine ⟨h0, ⟨x, List.mem_append_left _ hx, h1⟩, fun y hy q => ?_⟩
 rcases mem_snoc hy with g | e
 ·exact h2 y g q
 ·subst e
  refine cmp_up (a := a) (b := b) hf.pos h0 (Int.le_of_lt q) (by omega) ?_
  rw [hf.ex, Int.neg_mul]
  omega
theorem HiOk.new {A B D : P2} {S : List P2} {o : Option (Int × Int)} {a b : Int} (h : HiOk A B S o) (hD : slp A B D < 0) (hf : IsFr (-(ris A B D)) (slp A B D) a b) (hl : ∀ z, o = some z → a * z.2 < z.1 * b) : HiOk A B (S ++ [D]) (some (a, b)) := by
 have hb := hf.pos
 refine ⟨hb, ⟨D, by simp, hD, hf.ex⟩, fun y hy q => ?_⟩
 rcases mem_snoc hy with g | e
 ·cases o with
  | none => exact absurd q (h y g)
  | some z => exact cmp_dn h.1 hb (Int.le_of_lt q) (Int.le_of_lt (hl z rfl)) (h.2.2 y g q)
 ·subst e
  have := hf.ex
  dsimp only
  rw [this, Int.neg_mul]
  omega
theorem HiOk.old {A B D : P2} {S : List P2} {z : Int × Int} {a b : Int} (h : HiOk A B S (some z)) (hD : slp A B D < 0) (hf : IsFr (-(ris A B D)) (slp A B D) a b) (hl : ¬ a * z.2 < z.1 * b) : HiOk A B (S ++ [D]) (some z) := by
 obtain ⟨h0, ⟨x, hx, h1⟩, h2⟩ := h
 refine ⟨h0, ⟨x, List.mem_append_left _ hx, h1⟩, fun y hy q => ?_⟩
 rcases mem_snoc hy with g | e
 ·exact h2 y g q
 ·subst e
  refine cmp_dn (a := a) (b := b) hf.pos h0 (Int.le_of_lt q) (by omega) ?_
  rw [hf.ex, Int.neg_mul]
  omega
noncomputable def Untied (A B : P2) (rs : List P2) : Prop := (∃ D ∈ rs, slp A B D = 0 ∧ ris A B D < 0) ∨ ∃ s e, LoOk A B rs (some s) ∧ HiOk A B rs (some e) ∧ e.1 * s.2 ≤ s.1 * e.2
structure Tied (A B : P2) (rs : List P2) (s e : Option (Int × Int)) : Prop where
 lo : LoOk A B rs s
 hi : HiOk A B rs e
 flat : ∀ D ∈ rs, slp A B D = 0 → 0 ≤ ris A B D
 lt : ∀ s' e', s = some s' → e = some e' → s'.1 * e'.2 < e'.1 * s'.2
noncomputable def sp_rw (K : PySem.W.Frag) : Sp := fun vs H Q _ => ∃ (l : Addr) (i j : Nat) (qs : List Addr) (rs : List P2) (A B : P2), vs = [.ref l, .int (i : Int), .int (j : Int)] ∧ LpOk H l qs rs ∧ rs[i]? = some A ∧ rs[j]? = some B ∧ (Untied A B rs → ∀ H', Ext H H' → Q .non H') ∧ ∀ t v w s e H', Ext H H' → H' t = some (.tup [v, w]) → PlV H' v A B s → PlV H' w A B e → Tied A B rs s e → Q (.ref t) H'
noncomputable def TT (A B : P2) (rs : List P2) : Prop := (∀ D ∈ rs, slp A B D = 0 → 0 ≤ ris A B D) ∧ ∀ D ∈ rs, ∀ E ∈ rs, 0 < slp A B D → slp A B E < 0 → ris A B D * slp A B E < ris A B E * slp A B D
noncomputable instance (A B : P2) (rs : List P2) : Decidable (TT A B rs) := by unfold TT; infer_instance
theorem Untied.not {A B : P2} {rs : List P2} (h : Untied A B rs) : ¬ TT A B rs := by
 rintro ⟨f, g⟩
 rcases h with ⟨D, hD, h0, h1⟩ | ⟨s, e, ⟨s0, ⟨D, hD, d0, d1⟩, _⟩, ⟨e0, ⟨E, hE, e1, e2⟩, _⟩, le⟩
 ·have := f D hD h0
  omega
 ·have k := g D hD E hE d0 e1
  generalize slp A B D = p at *
  generalize slp A B E = q at *
  generalize ris A B D = a at *
  generalize ris A B E = b at *
  have m0 : 0 < p * (-q) := Int.mul_pos d0 (by omega)
  have k1 := Int.mul_le_mul_of_nonneg_right le (Int.le_of_lt m0)
  have pos : 0 < s.2 * e.2 := Int.mul_pos s0 e0
  have k2 := Int.mul_lt_mul_of_pos_right k pos
  have a1 : a * q * (s.2 * e.2) = (s.1 * e.2) * (p * (-q)) := by
   have : a * s.2 = -(s.1 * p) := by rw [d1, Int.neg_mul]; omega
   calc a * q * (s.2 * e.2) = (a * s.2) * q * e.2 := by grind
    _ = _ := by rw [this]; grind
  have b1 : b * p * (s.2 * e.2) = (e.1 * s.2) * (p * (-q)) := by
   have : b * e.2 = -(e.1 * q) := by rw [e2, Int.neg_mul]; omega
   calc b * p * (s.2 * e.2) = (b * e.2) * p * s.2 := by grind
    _ = _ := by rw [this]; grind
  rw [a1, b1] at k2
  omega
theorem Tied.tt {A B : P2} {rs : List P2} {s e : Option (Int × Int)} (h : Tied A B rs s e) : TT A B rs := by
 refine ⟨h.flat, fun D hD E hE d0 e0 => ?_⟩
 cases hs : s with
 | none =>
  have := h.lo
  rw [hs] at this
  exact absurd d0 (this D hD)
 | some s' =>
  cases he : e with
  | none =>
   have := h.hi
   rw [he] at this
   exact absurd e0 (this E hE)
  | some e' =>
   have lt := h.lt s' e' hs he
   have lo := h.lo
   have hi := h.hi
   rw [hs] at lo
   rw [he] at hi
   have k1 := lo.2.2 D hD d0
   have k2 := hi.2.2 E hE e0
   have p1 := lo.1
   have p2 := hi.1
   generalize slp A B D = p at *
   generalize slp A B E = q at *
   generalize ris A B D = a at *
   generalize ris A B E = b at *
   have m0 : 0 < p * (-q) := Int.mul_pos d0 (by omega)
   have pos : 0 < s'.2 * e'.2 := Int.mul_pos p1 p2
   have l1 := Int.mul_lt_mul_of_pos_right lt m0
   have l2 := Int.mul_nonneg k1 (Int.mul_nonneg (show 0 ≤ -q by omega) (Int.le_of_lt p2))
   have l3 := Int.mul_nonneg k2 (Int.mul_nonneg (Int.le_of_lt d0) (Int.le_of_lt p1))
   have f1 : (s'.1 * p + a * s'.2) * (-q * e'.2) = s'.1 * e'.2 * (p * -q) - a * q * (s'.2 * e'.2) := by grind
   have f2 : (e'.1 * q + b * e'.2) * (p * s'.2) = b * p * (s'.2 * e'.2) - e'.1 * s'.2 * (p * -q) := by grind
   rw [f1] at l2
   rw [f2] at l3
   have : a * q * (s'.2 * e'.2) < b * p * (s'.2 * e'.2) := by omega
   exact Int.lt_of_mul_lt_mul_right this (Int.le_of_lt pos)
theorem TT.symm {A B : P2} {rs : List P2} (h : TT A B rs) : TT B A rs := by
 have es : ∀ D, slp B A D = -slp A B D := fun D => by unfold slp; grind
 have er : ∀ D, ris B A D = ris A B D := fun D => by unfold ris; grind
 refine ⟨fun D hD h0 => ?_, fun D hD E hE d0 e0 => ?_⟩
 ·rw [es] at h0
  rw [er]
  exact h.1 D hD (by omega)
 ·rw [es] at d0 e0
  rw [es, es, er, er]
  have := h.2 E hE D hD (by omega) (by omega)
  rw [Int.mul_neg, Int.mul_neg]
  omega
theorem tfor_range2 {g : TG} {ta : TA} {σ : L2.St} {H : Hp} {tb : TS} {Dn : Ends} (lo : Int) (n : Nat) (ha : ∀ R : List V → Hp → Prop, R [.int lo, .int (lo + n)] H → ta σ H R) (hl : -1000000 < lo ∧ lo < 1000000) (hn : n < 1000000) (Pv : Nat → L2.St → Hp → Prop) (h0 : Pv 0 σ H)
  (hs : ∀ i σ H, i < n → Pv i σ H → g (.int (lo + (i : Int))) σ H fun σ2 H2 => tb { Dn with nx := Pv (i + 1), ct := Pv (i + 1), bk := Dn.nx } σ2 H2) (hd : ∀ σ H, Pv n σ H → Dn.nx σ H) : tFor (iRng2 ta) g tb Dn σ H :=
 have e : (lo + (n : Int) - lo).toNat = n := by omega
 ha _ ⟨lo, lo + n, rfl, by omega, for_range (lo := lo) (n := (lo + (n : Int) - lo).toNat) Pv h0 (fun i σ H hi p => hs i σ H (by omega) p) (fun σ H p => hd σ H (by rw [e] at p; exact p))⟩
structure TsOk (rs : List P2) (i j : Nat) (ps : List (Nat × Nat)) : Prop where
 bd : ∀ z ∈ ps, z.1 < z.2 ∧ z.2 < rs.length ∧ (z.1 < i ∨ (z.1 = i ∧ z.2 < j))
 nd : ps.Nodup
 all : ∀ a b A B, a < b → (a < i ∨ (a = i ∧ b < j)) → rs[a]? = some A → rs[b]? = some B → TT A B rs → (a, b) ∈ ps
 len : ps.length ≤ 12 * i + j
 td : ∀ z ∈ ps, ∀ A B, rs[z.1]? = some A → rs[z.2]? = some B → TT A B rs
theorem TsOk.skip {rs : List P2} {i j : Nat} {ps : List (Nat × Nat)} {A B : P2} (h : TsOk rs i j ps) (ha : rs[i]? = some A) (hb : rs[j]? = some B) (u : ¬ TT A B rs) : TsOk rs i (j + 1) ps where
 bd := fun z hz => by have := h.bd z hz; omega
 nd := h.nd
 all := fun a b A' B' ab q h1 h2 n => by
  by_cases e : a = i ∧ b = j
  ·obtain ⟨rfl, rfl⟩ := e
   rw [ha] at h1
   rw [hb] at h2
   cases h1
   cases h2
   exact (u n).elim
  ·exact h.all a b A' B' ab (by omega) h1 h2 n
 len := by have := h.len; omega
 td := h.td
theorem TsOk.put {rs : List P2} {i j : Nat} {ps : List (Nat × Nat)} {A B : P2} (h : TsOk rs i j ps) (ij : i < j) (hj : j < rs.length) (ha : rs[i]? = some A) (hb : rs[j]? = some B) (tt : TT A B rs) : TsOk rs i (j + 1) (ps ++ [(i, j)]) where
 bd := fun z hz => by
  rcases List.mem_append.mp hz with q | q
  ·have := h.bd z q
   omega
  ·rw [List.mem_singleton] at q
   subst q
   dsimp only
   omega
 nd := List.nodup_append.mpr ⟨h.nd, by simp, fun a ha c hc e => by
  rw [List.mem_singleton] at hc
  subst hc
  subst e
  have := h.bd _ ha
  dsimp only at this
  omega⟩
 all := fun a b A' B' ab q h1 h2 n => by
  by_cases e : a = i ∧ b = j
  ·obtain ⟨rfl, rfl⟩ := e
   exact List.mem_append_right _ (by simp)
  ·exact List.mem_append_left _ (h.all a b A' B' ab (by omega) h1 h2 n)
 len := by have := h.len; rw [List.length_append]; show _ + 1 ≤ _; omega
 td := fun z hz A' B' h1 h2 => by
  rcases List.mem_append.mp hz with q | q
  ·exact h.td z q A' B' h1 h2
  ·rw [List.mem_singleton] at q
   subst q
   rw [ha] at h1
   rw [hb] at h2
   cases h1
   cases h2
   exact tt
theorem TsOk.next {rs : List P2} {i : Nat} {ps : List (Nat × Nat)} (h : TsOk rs i rs.length ps) (n12 : rs.length ≤ 12) : TsOk rs (i + 1) 0 ps where
 bd := fun z hz => by have := h.bd z hz; omega
 nd := h.nd
 all := fun a b A' B' ab q h1 h2 n => h.all a b A' B' ab (by have := (List.getElem?_eq_some_iff.mp h2).1; omega) h1 h2 n
 len := by have := h.len; omega
 td := h.td
theorem TsOk.start {rs : List P2} {i j : Nat} {ps : List (Nat × Nat)} (h : TsOk rs i 0 ps) (j1 : j ≤ i + 1) : TsOk rs i j ps where
 bd := fun z hz => by have := h.bd z hz; omega
 nd := h.nd
 all := fun a b A' B' ab q h1 h2 n => h.all a b A' B' ab (by omega) h1 h2 n
 len := by have := h.len; omega
 td := h.td
noncomputable def RcAt (H : Hp) (ts : List Addr) (ps : List (Nat × Nat)) : Prop := ts.length = ps.length ∧ ∀ (k : Nat) (t : Addr) (z : Nat × Nat), ts[k]? = some t → ps[k]? = some z → ∃ w, H t = some (.tup [.int (z.1 : Int), .int (z.2 : Int), w])
theorem RcAt.ext {H H' : Hp} {ts : List Addr} {ps : List (Nat × Nat)} (h : RcAt H ts ps) (x : Ext H H') : RcAt H' ts ps := ⟨h.1, fun k t z a b => by
 obtain ⟨w, h1⟩ := h.2 k t z a b
 exact ⟨w, x _ _ h1⟩⟩
theorem RcAt.snoc {H : Hp} {ts : List Addr} {ps : List (Nat × Nat)} (h : RcAt H ts ps) {t : Addr} {i j : Nat} {w : V} (ht : H t = some (.tup [.int (i : Int), .int (j : Int), w])) : RcAt H (ts ++ [t]) (ps ++ [(i, j)]) := by
 refine ⟨by rw [List.length_append, List.length_append, h.1]; rfl, fun k q z a b => ?_⟩
 by_cases hk : k < ts.length
 ·rw [List.getElem?_append_left hk] at a
  rw [List.getElem?_append_left (by rw [← h.1]; exact hk)] at b
  exact h.2 k q z a b
 ·have hk' := (List.getElem?_eq_some_iff.mp a).1
  rw [List.length_append] at hk'
  simp only [List.length_cons, List.length_nil] at hk'
  have ek : k = ts.length := by omega
  rw [List.getElem?_append_right (by omega), ek, Nat.sub_self] at a
  rw [List.getElem?_append_right (by rw [← h.1]; omega), ← h.1, ek, Nat.sub_self] at b
  cases a
  cases b
  exact ⟨w, ht⟩
theorem RcAt.setL {H : Hp} {ts : List Addr} {ps : List (Nat × Nat)} (h : RcAt H ts ps) {D : Addr} {xs ys : List V} (hD : H D = some (.lst xs)) : RcAt (upd H D (.lst ys)) ts ps := ⟨h.1, fun k t z a b => by
 obtain ⟨w, h1⟩ := h.2 k t z a b
 exact ⟨w, (upd_ne (ne_of h1 hD (by intro z; cases z))).trans h1⟩⟩
noncomputable def RwV (A B : P2) (rs : List P2) (w : V) : Prop := (w = .non ∧ ¬ TT A B rs) ∨ ∃ t, w = .ref t ∧ TT A B rs
noncomputable def sp_reaches (K : PySem.W.Frag) : Sp := fun vs H Q _ => ∃ (l : Addr) (qs : List Addr) (rs : List P2), vs = [.ref l] ∧ LpOk H l qs rs ∧ ∀ t ts ps H', Ext H H' → H t = none → H' t = some (.lst (ts.map V.ref)) → RcAt H' ts ps → TsOk rs rs.length 0 ps → Q (.ref t) H'
noncomputable def cI (z : Nat × Nat) : P2 := ((z.1 : Int), (z.2 : Int))
theorem R2At.setT {H : Hp} {ts : List Addr} {zs : List P2} (h : R2At H ts zs) {D : Addr} {xs ys : List V} (hD : H D = some (.lst xs)) : R2At (upd H D (.lst ys)) ts zs := ⟨h.1, fun k t z a b => (upd_ne (ne_of (h.2 k t z a b) hD (by intro w; cases w))).trans (h.2 k t z a b)⟩
theorem R2At.snocT {H : Hp} {ts : List Addr} {zs : List P2} (h : R2At H ts zs) {t : Addr} {z : P2} (ht : H t = some (.tup [.int z.1, .int z.2])) : R2At H (ts ++ [t]) (zs ++ [z]) := by
 refine ⟨by rw [List.length_append, List.length_append, h.1]; rfl, fun k q w a b => ?_⟩
 by_cases hk : k < ts.length
 ·rw [List.getElem?_append_left hk] at a
  rw [List.getElem?_append_left (by rw [← h.1]; exact hk)] at b
  exact h.2 k q w a b
 ·have hk' := (List.getElem?_eq_some_iff.mp a).1
  rw [List.length_append] at hk'
  simp only [List.length_cons, List.length_nil] at hk'
  have ek : k = ts.length := by omega
  rw [List.getElem?_append_right (by omega), ek, Nat.sub_self] at a
  rw [List.getElem?_append_right (by rw [← h.1]; omega), ← h.1, ek, Nat.sub_self] at b
  cases a
  cases b
  exact ht
noncomputable def sp_ties (K : PySem.W.Frag) : Sp := fun vs H Q _ => ∃ (l : Addr) (qs : List Addr) (rs : List P2), vs = [.ref l] ∧ LpOk H l qs rs ∧ ∀ t ts ps H', Ext H H' → H t = none → H' t = some (.lst (ts.map V.ref)) → R2At H' ts (ps.map cI) → TsOk rs rs.length 0 ps → Q (.ref t) H'
noncomputable def sAt (rs : List P2) (i : Nat) : P2 := rs.getD i (0, 0)
theorem sAt_get {rs : List P2} {i : Nat} (h : i < rs.length) : rs[i]? = some (sAt rs i) := by unfold sAt; rw [List.getD_eq_getElem?_getD, List.getElem?_eq_getElem h]; rfl
noncomputable def sp_sturn : Sp := fun vs H Q _ => ∃ (l : Addr) (i j k : Nat) (qs : List Addr) (rs : List P2), vs = [.ref l, .int (i : Int), .int (j : Int), .int (k : Int)] ∧ LpOk H l qs rs ∧ i < rs.length ∧ j < rs.length ∧ k < rs.length ∧ ∀ H', Ext H H' → Q (.int (sgn (trn (sAt rs i) (sAt rs j) (sAt rs k)))) H'
noncomputable def JsV (js : List Nat) : List V := js.map fun j : Nat => V.int (j : Int)
theorem JsV_get {js : List Nat} {k : Nat} {w : V} (hk : (JsV js)[k]? = some w) : ∃ j : Nat, js[k]? = some j ∧ w = .int (j : Int) := by
 unfold JsV at hk
 rw [List.getElem?_map] at hk
 cases e : js[k]? with
 | none => rw [e] at hk; cases hk
 | some q => rw [e] at hk; exact ⟨q, rfl, (Option.some.inj hk).symm⟩
theorem JsV_len (js : List Nat) : (JsV js).length = js.length := by
 unfold JsV
 rw [List.length_map]
theorem two_last {w : List Nat} (h : 1 < w.length) : ∃ (u : List Nat) (b t : Nat), w = u ++ [b, t] := by
 rcases List.eq_nil_or_concat w with rfl | ⟨v, t, rfl⟩
 ·simp at h
 rcases List.eq_nil_or_concat v with rfl | ⟨u, b, rfl⟩
 ·simp at h
 exact ⟨u, b, t, by simp⟩
theorem atI_l1 {α : Type} (u : List α) (b t : α) : atI (u ++ [b, t]) (-1) = some t := by
 unfold atI ixN
 simp
 rw [if_pos (by omega), show (-1 + ((u.length : Int) + 2)).toNat = u.length + 1 by omega]
 simp
theorem atI_l2 {α : Type} (u : List α) (b t : α) : atI (u ++ [b, t]) (-2) = some b := by
 unfold atI ixN
 simp
 rw [if_pos (by omega), show (-2 + ((u.length : Int) + 2)).toNat = u.length by omega]
 simp
theorem sgn_lt {a : Int} : sgn a < 0 ↔ a < 0 := by
 unfold sgn
 by_cases c : a < 0
 ·simp [c]
 ·rw [if_neg c]
  split <;> omega
noncomputable def sp_outer (K : PySem.W.Frag) : Sp := fun vs H Q _ => ∃ (l o : Addr) (qs : List Addr) (rs : List P2) (js : List Nat), vs = [.ref l, .ref o] ∧ LpOk H l qs rs ∧ H o = some (.lst (JsV js)) ∧ (∀ j ∈ js, j < rs.length) ∧ js.length ≤ 12 ∧
 ∀ (D : Addr) (w : List Nat) (H' : Hp), Ext H H' → H D = none → H' D = some (.lst (JsV w)) → (w.map (sAt rs)).reverse = wayS (js.map (sAt rs)) → (∀ j ∈ w, j ∈ js) → w.length ≤ js.length → Q (.ref D) H'
theorem JsV_nats (q : List Nat) : natsV q = JsV q := by unfold natsV JsV; rw [List.map_map]; rfl
theorem place_lx {rs : List P2} {q : List Nat} (nd : rs.Nodup) (h : PlQ rs q) : (q.map (sAt rs)).Pairwise Lx := by
 obtain ⟨pm, pw⟩ := h
 have ndq : q.Nodup := pm.nodup_iff.mpr List.nodup_range
 have lt : ∀ i ∈ q, i < rs.length := fun i hi => List.mem_range.mp (pm.mem_iff.mp hi)
 rw [List.pairwise_map]
 refine (pw.and ndq).imp_of_mem fun {a b} ha hb hs => ?_
 obtain ⟨h1, h2⟩ := hs
 rcases lx_total (sAt rs a) (sAt rs b) with g | g | g
 ·exact g
 ·exfalso
  refine h2 ?_
  have e1 := sAt_get (lt a ha)
  have e2 := sAt_get (lt b hb)
  rw [g] at e1
  obtain ⟨l1, f1⟩ := List.getElem?_eq_some_iff.mp e1
  obtain ⟨l2, f2⟩ := List.getElem?_eq_some_iff.mp e2
  exact (List.getElem_inj nd).mp (f1.trans f2.symm)
 ·exfalso
  unfold wOf at h1
  have e : ∀ i, rs.getD i (0, 0) = sAt rs i := fun i => rfl
  rw [e, e] at h1
  simp only [HT.lexLt_cons, HT.lexLt_nil_nil] at h1
  unfold Lx at g
  by_cases c : (sAt rs b).1 = (sAt rs a).1
  ·rw [if_pos c] at h1
   by_cases c2 : (sAt rs b).2 = (sAt rs a).2
   ·omega
   ·rw [if_neg c2] at h1
    simp only [decide_eq_false_iff_not] at h1
    omega
  ·rw [if_neg c] at h1
   simp only [decide_eq_false_iff_not] at h1
   omega
theorem JsV_rev (q : List Nat) : (JsV q).reverse = JsV q.reverse := by unfold JsV; rw [List.map_reverse]
theorem cut_last (q : List Nat) : cutV (JsV q) none (some (-1)) = JsV q.dropLast := by
 unfold cutV JsV
 rw [List.length_map]
 show (((q.map _).drop 0).take (HT.sIx q.length q.length (some (-1)) - 0)) = _
 rw [List.drop_zero, Nat.sub_zero, ← List.map_take, List.dropLast_eq_take]
 have e : HT.sIx q.length q.length (some (-1)) = q.length - 1 := by
  show ((-1 : Int) + (q.length : Int)).toNat = _
  omega
 rw [e]
noncomputable def sp_rim (K : PySem.W.Frag) (C : Cz) : Sp := fun vs H Q _ => ∃ (l : Addr) (qs : List Addr) (rs : List P2), vs = [.ref l] ∧ LpOk H l qs rs ∧ H C.lp_by_place = some (.tbl tg_by_place) ∧ ∀ D J H', Ext H H' → H D = none → H' D = some (.lst (JsV J)) → RimOk (sAt rs) rs.length J → Q (.ref D) H'
noncomputable def sp_feed (K : PySem.W.Frag) : Sp := fun vs H Q _ => ∃ (a : Addr) (ns : List Int) (k : Int), vs = [.ref a, .int k] ∧ SqL K H a (ns.map V.int) ∧ ∀ p x y z, H p = none → Q (.ref p) (upd H p (.lst [.int x, .int y, .int z]))
noncomputable def sp_next : Sp := fun vs H Q _ => ∃ (p : Addr) (m : Int), vs = [.ref p, .int m] ∧ Feed H p ∧ 0 < m ∧ m < 10000000000000000000000000000000000000000 ∧ ∀ r H', 0 ≤ r → r < m → FX p H H' → Q (.int r) H'
noncomputable def sp_great : Sp := fun vs H Q _ => ∃ (p : Addr) (far : Int), vs = [.ref p, .int far] ∧ Feed H p ∧ 0 ≤ far ∧ ∀ r H', -far ≤ r → r ≤ far → FX p H H' → Q (.int r) H'
noncomputable def ringP : List P2 := [(5, 0), (4, 3), (3, 4), (0, 5), (-3, 4), (-4, 3), (-5, 0), (-4, -3), (-3, -4), (0, -5), (3, -4), (0, 0)]
noncomputable def sp_spot : Sp := fun vs H Q _ => ∃ (p : Addr) (st : Int), vs = [.ref p, .int st] ∧ Feed H p ∧ ∀ t x y H', FX p H H' → H' t = some (.tup [.int x, .int y]) → (-((10 ^ 30 - 1)) ≤ x ∧ x ≤ (10 ^ 30 - 1)) → (-((10 ^ 30 - 1)) ≤ y ∧ y ≤ (10 ^ 30 - 1)) → Q (.ref t) H'
noncomputable def KvOk (kvs : List (List Key × V)) : Prop := (kvs.map (·.1)).Nodup ∧ ∀ kv ∈ kvs, ∃ x y : Int, kv.1 = [Sum.inl x, Sum.inl y] ∧ (-((10 ^ 30 - 1)) ≤ x ∧ x ≤ (10 ^ 30 - 1)) ∧ (-((10 ^ 30 - 1)) ≤ y ∧ y ≤ (10 ^ 30 - 1))
theorem KvOk.put {kvs : List (List Key × V)} (h : KvOk kvs) {x y : Int} (hx : -((10 ^ 30 - 1)) ≤ x ∧ x ≤ (10 ^ 30 - 1)) (hy : -((10 ^ 30 - 1)) ≤ y ∧ y ≤ (10 ^ 30 - 1)) (v : V) : KvOk (putK kvs [Sum.inl x, Sum.inl y] v) ∧ 0 < (putK kvs [Sum.inl x, Sum.inl y] v).length := by
 cases e : valV kvs [Sum.inl x, Sum.inl y] with
 | none =>
  rw [putK_new v e]
  refine ⟨⟨?_, ?_⟩, by rw [List.length_append]; exact Nat.succ_pos _⟩
  ·have := nd_putK v h.1 e
   rw [putK_new v e] at this
   exact this
  ·intro kv hk
   rcases List.mem_append.mp hk with q | q
   ·exact h.2 kv q
   ·obtain rfl : kv = ([Sum.inl x, Sum.inl y], v) := by simpa using q
    exact ⟨x, y, rfl, hx, hy⟩
 | some w =>
  have hany : (kvs.any fun kv => decide (kv.1 = [Sum.inl x, Sum.inl y])) = true := by rw [valV_any, e]; rfl
  have e2 : putK kvs [Sum.inl x, Sum.inl y] v = kvs.map (fun kv => if kv.1 = [Sum.inl x, Sum.inl y] then (kv.1, v) else kv) := if_pos hany
  have keys : (kvs.map (fun kv => if kv.1 = [Sum.inl x, Sum.inl y] then (kv.1, v) else kv)).map (·.1) = kvs.map (·.1) := by
   rw [List.map_map]
   apply List.map_congr_left
   intro kv _
   show (if kv.1 = [Sum.inl x, Sum.inl y] then (kv.1, v) else kv).1 = kv.1
   split <;> rfl
  rw [e2]
  refine ⟨⟨by rw [keys]; exact h.1, fun kv hk => ?_⟩, ?_⟩
  ·obtain ⟨kv', hk', rfl⟩ := List.mem_map.mp hk
   split
   ·exact h.2 kv' hk'
   ·exact h.2 kv' hk'
  ·rw [List.length_map]
   cases kvs with
   | nil => cases e
   | cons _ _ => exact Nat.succ_pos _
noncomputable def kXY (kv : List Key × V) : P2 := match kv.1 with
 | [Sum.inl x, Sum.inl y] => (x, y)
 | _ => (0, 0)
theorem kv_nodup {kvs : List (List Key × V)} (h : KvOk kvs) : (kvs.map kXY).Nodup := by
 have key : ∀ kv ∈ kvs, kv.1 = [Sum.inl (kXY kv).1, Sum.inl (kXY kv).2] := by
  intro kv hk
  obtain ⟨x1, y1, e, _⟩ := h.2 kv hk
  obtain ⟨k1, v1⟩ := kv
  dsimp only at e
  subst e
  rfl
 have hn := h.1
 clear h
 induction kvs with
 | nil => exact List.nodup_nil
 | cons kv kvs ih =>
  rw [List.map_cons, List.nodup_cons] at hn ⊢
  refine ⟨fun hm => hn.1 ?_, ih (fun k hk => key k (List.mem_cons_of_mem _ hk)) hn.2⟩
  obtain ⟨k', hk', e⟩ := List.mem_map.mp hm
  refine List.mem_map.mpr ⟨k', hk', ?_⟩
  rw [key k' (List.mem_cons_of_mem _ hk'), key kv List.mem_cons_self, e]
theorem R2At.append {H : Hp} {qs qs' : List Addr} {rs rs' : List P2} (h : R2At H qs rs) (h' : R2At H qs' rs') : R2At H (qs ++ qs') (rs ++ rs') := by
 refine ⟨by rw [List.length_append, List.length_append, h.1, h'.1], fun i q z h1 h2 => ?_⟩
 by_cases hi : i < qs.length
 ·rw [List.getElem?_append_left hi] at h1
  rw [List.getElem?_append_left (by rw [← h.1]; exact hi)] at h2
  exact h.2 i q z h1 h2
 ·rw [List.getElem?_append_right (by omega)] at h1
  rw [List.getElem?_append_right (by rw [← h.1]; omega), ← h.1] at h2
  exact h'.2 _ q z h1 h2
theorem R2At.one {H : Hp} {q : Addr} {r : P2} (h : H q = some (.tup [.int r.1, .int r.2])) : R2At H [q] [r] := ⟨rfl, fun i q' z h1 h2 => by
 match i, h1, h2 with
 | 0, h1, h2 => cases h1; cases h2; exact h⟩
theorem R2At.setL {H : Hp} {qs : List Addr} {R : List P2} {L : Addr} {xs ys : List V} (h : R2At H qs R) (hL : H L = some (.lst xs)) : R2At (upd H L (.lst ys)) qs R := ⟨h.1, fun i t v a b => by
 have h1 := h.2 i t v a b
 exact (upd_ne (ne_of h1 hL (by intro z; cases z))).trans h1⟩
noncomputable def sp_spots (K : PySem.W.Frag) : Sp := fun vs H Q _ => ∃ (a : Addr) (ns : List Int), vs = [.ref a] ∧ SqL K H a (ns.map V.int) ∧ ns.length ≤ 63 ∧ ∀ l qs rs H', Ext H H' → LpOk H' l qs rs → Q (.ref l) H'
noncomputable def sp_btw : Sp := fun vs H Q _ => ∃ (p q t : Addr) (x y z : P3), vs = [.ref p, .ref q, .ref t] ∧ H p = some (.tup [.int x.1, .int x.2.1, .int x.2.2]) ∧ H q = some (.tup [.int y.1, .int y.2.1, .int y.2.2]) ∧ H t = some (.tup [.int z.1, .int z.2.1, .int z.2.2]) ∧ Q (.bl (decide (Btw (x.1, x.2.1) (y.1, y.2.1) (z.1, z.2.1)))) H
theorem inV_two (k i j : Nat) : (!inV (.int (k : Int)) [.int (i : Int), .int (j : Int)]) = !decide (k = i ∨ k = j) := by
 have e : inV (.int (k : Int)) [.int (i : Int), .int (j : Int)] = (((i : Int) == (k : Int)) || (((j : Int) == (k : Int)) || false)) := rfl
 rw [e]
 by_cases h1 : k = i
 ·simp [h1]
 ·by_cases h2 : k = j
  ·simp [h2]
  ·have g1 : ((i : Int) == (k : Int)) = false := by simp; omega
   have g2 : ((j : Int) == (k : Int)) = false := by simp; omega
   rw [g1, g2]
   simp [h1, h2]
noncomputable def PtAt (H : Hp) (ts : List Addr) (rs : List P2) : Prop := ts.length = rs.length ∧ ∀ (i : Nat) (q : Addr), i < rs.length → ts[i]? = some q → H q = some (.tup [.int (sAt rs i).1, .int (sAt rs i).2, .int 1])
theorem PtAt.ext {H H' : Hp} {ts : List Addr} {rs : List P2} (h : PtAt H ts rs) (x : Ext H H') : PtAt H' ts rs := ⟨h.1, fun i q a b => x _ _ (h.2 i q a b)⟩
theorem PtAt.get {H : Hp} {ts : List Addr} {rs : List P2} (h : PtAt H ts rs) {i : Nat} (hi : i < rs.length) : ∃ q, atI (ts.map V.ref) (i : Int) = some (.ref q) ∧ H q = some (.tup [.int (sAt rs i).1, .int (sAt rs i).2, .int 1]) := by
 obtain ⟨q, hq⟩ : ∃ q, ts[i]? = some q := ⟨_, List.getElem?_eq_getElem (by rw [h.1]; exact hi)⟩
 exact ⟨q, atI_nat (by rw [List.getElem?_map, hq]; rfl), h.2 i q hi hq⟩
noncomputable def BsP (rs : List P2) : Prop := ∀ i, Bd 101 (sAt rs i).1 ∧ Bd 101 (sAt rs i).2
noncomputable def StpK (P : Nat → Q2) (m a b : Nat) : Prop := ∀ k, k < m → k ≠ a → k ≠ b → 0 ≤ trn (P a) (P b) (P k) ∧ (trn (P a) (P b) (P k) = 0 → ¬ Btw (P a) (P b) (P k))
noncomputable def sp_isstep (K : PySem.W.Frag) : Sp := fun vs H Q _ => ∃ (L : Addr) (i j : Nat) (ts : List Addr) (rs : List P2), vs = [.ref L, .int (i : Int), .int (j : Int)] ∧ H L = some (.lst (ts.map V.ref)) ∧ PtAt H ts rs ∧ BsP rs ∧ rs.length ≤ 12 ∧ i < rs.length ∧ j < rs.length ∧ ∀ H', Ext H H' → Q (.bl (decide (Stp (sAt rs) rs.length i j))) H'
theorem eqvAll_rs : ∀ rs : List P2, PyData.eqvAll (rs.map t2d) (rs.map t2d) = true
 | [] => by simp [PyData.eqvAll]
 | c :: cs => by
  have := eqvAll_rs cs
  simp only [List.map_cons, PyData.eqvAll, this, Bool.and_true]
  simp [t2d, PyData.eqv, PyData.eqvAll]
theorem eqv_rs (rs : List P2) : PyData.eqv (.list (rs.map t2d)) (.list (rs.map t2d)) = true := by
 simp only [PyData.eqv, eqvAll_rs]
theorem bsP_of {rs : List P2} (h : ∀ r ∈ rs, Bd 101 r.1 ∧ Bd 101 r.2) : BsP rs := fun i => by
 by_cases c : i < rs.length
 ·exact h _ (List.mem_of_getElem? (sAt_get c))
 ·have : sAt rs i = (0, 0) := by unfold sAt; rw [List.getD_eq_getElem?_getD, List.getElem?_eq_none (by omega)]; rfl
  rw [this]
  exact ⟨by unfold Bd; decide, by unfold Bd; decide⟩
theorem slp_trn (A B D : P2) : slp A B D = -2 * trn A B D := by unfold slp trn; grind
theorem ris_dot (A B D : P2) : ris A B D = (D.1 - A.1) * (D.1 - B.1) + (D.2 - A.2) * (D.2 - B.2) := by unfold ris; grind
theorem out_nn {x u a : Int} (h : ¬ ((x ≤ a ∧ a ≤ u) ∨ (u ≤ a ∧ a ≤ x))) : 0 < (a - x) * (a - u) := by
 by_cases c : x < a
 ·exact Int.mul_pos (by omega) (by omega)
 ·rw [← Int.neg_mul_neg]
  exact Int.mul_pos (by omega) (by omega)
theorem sq_nn0 (d : Int) : 0 ≤ d * d := by
 rcases Int.le_total 0 d with g | g
 ·exact Int.mul_nonneg g g
 ·rw [← Int.neg_mul_neg]
  exact Int.mul_nonneg (by omega) (by omega)
theorem flat_nn {p q a b d e : Int} (hp : 0 < p) (e1 : a * a * q = b * b * p) (e2 : a = 0 → q = d * d) : 0 ≤ q := by
 by_cases c : a = 0
 ·rw [e2 c]
  exact sq_nn0 d
 ·have h0 : 0 < a * a := by
   rcases Int.lt_or_gt_of_ne c with g | g
   ·rw [← Int.neg_mul_neg]
    exact Int.mul_pos (by omega) (by omega)
   ·exact Int.mul_pos g g
  have h1 : 0 ≤ b * b * p := by
   refine Int.mul_nonneg ?_ (Int.le_of_lt hp)
   exact sq_nn0 b
  rw [← e1] at h1
  exact Int.le_of_mul_le_mul_left (a := a * a) (by rw [Int.mul_zero]; exact h1) h0
theorem stp_tt {rs : List P2} {i j : Nat} (il : i < rs.length) (jl : j < rs.length) (ne : sAt rs i ≠ sAt rs j) (h : Stp (sAt rs) rs.length i j) : TT (sAt rs i) (sAt rs j) rs := by
 have key : ∀ D ∈ rs, 0 ≤ trn (sAt rs i) (sAt rs j) D ∧ (trn (sAt rs i) (sAt rs j) D = 0 → 0 ≤ ris (sAt rs i) (sAt rs j) D) := by
  intro D hD
  obtain ⟨k, hk⟩ := List.getElem?_of_mem hD
  have kl := (List.getElem?_eq_some_iff.mp hk).1
  have eD : sAt rs k = D := by have := sAt_get kl; rw [hk] at this; exact (Option.some.inj this).symm
  rw [← eD, ris_dot]
  by_cases ki : k = i
  ·subst ki
   rw [trn_self']
   exact ⟨Int.le_refl _, fun _ => by simp⟩
  by_cases kj : k = j
  ·subst kj
   rw [trn_self]
   exact ⟨Int.le_refl _, fun _ => by simp⟩
  obtain ⟨h1, h2⟩ := h k kl ki kj
  refine ⟨h1, fun z => ?_⟩
  have nb := h2 z
  clear h2 h1 h eD hk hD
  generalize sAt rs i = A at *
  generalize sAt rs j = B at *
  generalize sAt rs k = E at *
  obtain ⟨x, y⟩ := A
  obtain ⟨u, v⟩ := B
  obtain ⟨a, b⟩ := E
  unfold trn at z
  unfold Btw at nb
  dsimp only at *
  have z' : (u - x) * (b - y) = (v - y) * (a - x) := by omega
  have z2 : (u - x) * (b - v) = (v - y) * (a - u) := by grind
  have e1 : (u - x) * (u - x) * ((b - y) * (b - v)) = (v - y) * (v - y) * ((a - x) * (a - u)) := by
   calc (u - x) * (u - x) * ((b - y) * (b - v)) = ((u - x) * (b - y)) * ((u - x) * (b - v)) := by grind
    _ = _ := by rw [z', z2]; grind
  by_cases c : (x ≤ a ∧ a ≤ u) ∨ (u ≤ a ∧ a ≤ x)
  ·have c2 : ¬ ((y ≤ b ∧ b ≤ v) ∨ (v ≤ b ∧ b ≤ y)) := fun g => nb ⟨c, g⟩
   have q := out_nn c2
   have := flat_nn (a := v - y) (b := u - x) (d := a - x) (e := 0) q e1.symm (fun g => by
    have : u - x = 0 ∨ b - y = 0 := by
     rw [g, Int.zero_mul] at z'
     exact Int.mul_eq_zero.mp z'
    rcases this with g' | g'
    ·rw [show a - u = a - x by omega]
    ·rw [g', Int.zero_mul] at q
     omega)
   omega
  ·have q := out_nn c
   have := flat_nn (a := u - x) (b := v - y) (d := b - y) (e := 0) q e1 (fun g => by
    rw [g, Int.zero_mul] at z'
    rcases Int.mul_eq_zero.mp z'.symm with g' | g'
    ·rw [show b - v = b - y by omega]
    ·rw [g', Int.zero_mul] at q
     omega)
   omega
 refine ⟨fun D hD h0 => ?_, fun D hD E hE d0 _ => ?_⟩
 ·rw [slp_trn] at h0
  exact (key D hD).2 (by omega)
 ·have := (key D hD).1
  rw [slp_trn] at d0
  omega
noncomputable def dueR (P : Nat → P2) (n i k : Nat) : List (Nat × Nat) := ((List.range k).filter fun j => decide (j ≠ i ∧ Stp P n i j)).map fun j => (i, j)
noncomputable def dueL (P : Nat → P2) (n m : Nat) : List (Nat × Nat) := (List.range m).flatMap fun i => dueR P n i n
theorem mem_dueR {P : Nat → P2} {n i k : Nat} {z : Nat × Nat} : z ∈ dueR P n i k ↔ z.1 = i ∧ z.2 < k ∧ z.2 ≠ i ∧ Stp P n i z.2 := by
 unfold dueR
 rw [List.mem_map]
 constructor
 ·rintro ⟨j, hj, rfl⟩
  rw [List.mem_filter, List.mem_range, decide_eq_true_eq] at hj
  exact ⟨rfl, hj.1, hj.2⟩
 ·rintro ⟨h1, h2, h3⟩
  exact ⟨z.2, by rw [List.mem_filter, List.mem_range, decide_eq_true_eq]; exact ⟨h2, h3⟩, Prod.ext h1.symm rfl⟩
theorem mem_dueL {P : Nat → P2} {n m : Nat} {z : Nat × Nat} : z ∈ dueL P n m ↔ z.1 < m ∧ z.2 < n ∧ z.1 ≠ z.2 ∧ Stp P n z.1 z.2 := by
 unfold dueL
 rw [List.mem_flatMap]
 constructor
 ·rintro ⟨i, hi, h⟩
  obtain ⟨rfl, h1, h2, h3⟩ := mem_dueR.mp h
  exact ⟨List.mem_range.mp hi, h1, Ne.symm h2, h3⟩
 ·rintro ⟨h1, h2, h3, h4⟩
  exact ⟨z.1, List.mem_range.mpr h1, mem_dueR.mpr ⟨rfl, h2, Ne.symm h3, h4⟩⟩
noncomputable def PLt (a b : Nat × Nat) : Prop := a.1 < b.1 ∨ (a.1 = b.1 ∧ a.2 < b.2)
theorem dueL_sort (P : Nat → P2) (n m : Nat) : (dueL P n m).Pairwise PLt := by
 unfold dueL
 rw [List.pairwise_flatMap]
 refine ⟨fun i _ => ?_, ?_⟩
 ·unfold dueR
  rw [List.pairwise_map]
  exact (List.Pairwise.filter _ List.pairwise_lt_range).imp fun h => .inr ⟨rfl, h⟩
 ·refine List.pairwise_lt_range.imp fun {a b} h x hx y hy => ?_
  have := (mem_dueR.mp hx).1
  have := (mem_dueR.mp hy).1
  exact .inl (by omega)
theorem dueL_nd (P : Nat → P2) (n m : Nat) : (dueL P n m).Nodup := (dueL_sort P n m).imp fun {a b} h e => by
 subst e
 unfold PLt at h
 omega
theorem dueR_len (P : Nat → P2) (n i k : Nat) : (dueR P n i k).length ≤ k := by
 unfold dueR
 rw [List.length_map]
 exact Nat.le_trans (List.length_filter_le _ _) (by rw [List.length_range]; exact Nat.le_refl _)
theorem dueR_succ (P : Nat → P2) (n i k : Nat) : dueR P n i (k + 1) = dueR P n i k ++ if k ≠ i ∧ Stp P n i k then [(i, k)] else [] := by
 unfold dueR
 rw [List.range_succ, List.filter_append, List.map_append]
 by_cases c : k ≠ i ∧ Stp P n i k
 ·rw [if_pos c]
  simp [c]
 ·rw [if_neg c]
  have : List.filter (fun j => decide (j ≠ i ∧ Stp P n i j)) [k] = [] := by
   rw [List.filter_cons_of_neg (by rw [decide_eq_true_eq]; exact c)]
   rfl
  rw [this]
  rfl
theorem dueL_succ (P : Nat → P2) (n m : Nat) : dueL P n (m + 1) = dueL P n m ++ dueR P n m n := by
 unfold dueL
 rw [List.range_succ, List.flatMap_append]
 simp
theorem dueL_len (P : Nat → P2) (n : Nat) : ∀ m, (dueL P n m).length ≤ m * n
 | 0 => by simp [dueL]
 | m + 1 => by
  have := dueL_len P n m
  have := dueR_len P n m n
  rw [dueL_succ, List.length_append, Nat.succ_mul]
  omega
theorem cyc_due {P : Nat → P2} {n : Nat} {J : List Nat} (h : RimOk P n J) (l : 1 < n) {zs : List (Nat × Nat)} (pm : zs.Perm (cyc J)) (so : zs.Pairwise fun a b => ¬ PLt b a) : zs = dueL P n n := by
 have nd : zs.Nodup := pm.nodup_iff.mpr (h.nd l)
 refine List.Perm.eq_of_pairwise (le := PLt) (fun a b _ _ h1 h2 => by unfold PLt at *; omega) ?_ (dueL_sort P n n) ?_
 ·refine (so.and nd).imp fun {a b} hs => ?_
  obtain ⟨h1, h2⟩ := hs
  have : a.1 ≠ b.1 ∨ a.2 ≠ b.2 := by
   by_cases e : a.1 = b.1
   ·exact .inr fun e2 => h2 (Prod.ext e e2)
   ·exact .inl e
  unfold PLt at *
  omega
 ·refine pm.trans ((List.perm_ext_iff_of_nodup (h.nd l) (dueL_nd P n n)).mpr fun z => ?_)
  rw [mem_dueL, h.mem l z.1 z.2]
theorem all_rep (n : Nat) : (List.replicate n true).all id = true := by simp
theorem rep_bl (i : Nat) : (List.replicate i true).map V.bl ++ [.bl true] = .bl true :: (List.replicate i true).map V.bl := by
 rw [List.map_replicate, ← List.replicate_succ', List.replicate_succ]
theorem ahead_lx {a b : P2} (h : Lx a b) : aheadB a.1 a.2 1 b.1 b.2 1 = true := by
 unfold Lx at h
 unfold aheadB
 split <;> rw [decide_eq_true_eq] <;> omega
theorem R2At.app {H : Hp} {us vs : List Addr} {rs ss : List P2} (h : R2At H us rs) (g : R2At H vs ss) : R2At H (us ++ vs) (rs ++ ss) := by
 refine ⟨by rw [List.length_append, List.length_append, h.1, g.1], fun k q w a b => ?_⟩
 by_cases hk : k < us.length
 ·rw [List.getElem?_append_left hk] at a
  rw [List.getElem?_append_left (by rw [← h.1]; exact hk)] at b
  exact h.2 k q w a b
 ·rw [List.getElem?_append_right (by omega)] at a
  rw [List.getElem?_append_right (by rw [← h.1]; omega), ← h.1] at b
  exact g.2 _ q w a b
theorem atI_m1 {xs : List V} (h : 0 < xs.length) : atI xs (-1) = xs[xs.length - 1]? := by
 rcases List.eq_nil_or_concat xs with rfl | ⟨u, t, rfl⟩
 ·cases h
 ·rw [List.concat_eq_append]
  unfold atI ixN
  simp
  rw [if_pos (by omega), show (-1 + ((u.length : Int) + 1)).toNat = u.length by omega]
  simp
theorem prv_at {J : List Nat} {k : Nat} (hk : k < J.length) : atI (JsV J) ((k : Int) - 1) = some (.int ((J.getD (prv J k) 0 : Nat) : Int)) := by
 have lJ : (JsV J).length = J.length := JsV_len J
 have g : ∀ i, i < J.length → (JsV J)[i]? = some (.int ((J.getD i 0 : Nat) : Int)) := fun i hi => by
  unfold JsV
  rw [List.getElem?_map, List.getD_eq_getElem?_getD, List.getElem?_eq_getElem hi]
  rfl
 unfold prv
 by_cases c : k = 0
 ·subst c
  rw [if_pos rfl, show ((0 : Nat) : Int) - 1 = -1 from rfl, atI_m1 (by omega), lJ]
  exact g _ (by omega)
 ·rw [if_neg c, show (k : Int) - 1 = ((k - 1 : Nat) : Int) by omega]
  exact atI_nat (g _ (by omega))
noncomputable def gH (H : Hp) (v : V) : List Int := match v with
 | .ref t => (match H t with
  | some (.tup [.int a, .int b]) => [a, b]
  | _ => [])
 | _ => []
theorem at_R2 {H : Hp} {ws : List Addr} {zs : List (Nat × Nat)} (h : R2At H ws (zs.map cI)) {k : Nat} (hk : k < zs.length) : atV (ws.map V.ref) k = .ref (ws.getD k 0) ∧ H (ws.getD k 0) = some (.tup [.int (((zs.getD k (0, 0)).1 : Nat) : Int), .int (((zs.getD k (0, 0)).2 : Nat) : Int)]) := by
 have lw : ws.length = zs.length := by rw [h.1, List.length_map]
 have e1 : ws[k]? = some (ws.getD k 0) := by rw [List.getD_eq_getElem?_getD, List.getElem?_eq_getElem (by omega)]; rfl
 have e2 : zs[k]? = some (zs.getD k (0, 0)) := by rw [List.getD_eq_getElem?_getD, List.getElem?_eq_getElem hk]; rfl
 refine ⟨?_, h.2 k _ _ e1 (by rw [List.getElem?_map, e2]; rfl)⟩
 unfold atV
 rw [List.getD_eq_getElem?_getD, List.getElem?_map, e1]
 rfl
theorem sort_R2 {H : Hp} {ws : List Addr} {zs : List (Nat × Nat)} {q : List Nat} (h : R2At H ws (zs.map cI)) (s : SortedBy (ltT (gH H) (ws.map V.ref)) (ws.map V.ref).length q) :
  q.map (atV (ws.map V.ref)) = (q.map fun k => ws.getD k 0).map V.ref ∧ R2At H (q.map fun k => ws.getD k 0) ((q.map fun k => zs.getD k (0, 0)).map cI) ∧ (q.map fun k => zs.getD k (0, 0)).Perm zs ∧ (q.map fun k => zs.getD k (0, 0)).Pairwise fun a b => ¬ PLt b a := by
 obtain ⟨pm, pw⟩ := s
 have lw : ws.length = zs.length := by rw [h.1, List.length_map]
 rw [List.length_map, lw] at pm
 have lt : ∀ i ∈ q, i < zs.length := fun i hi => by simpa using pm.mem_iff.mp hi
 have gv : ∀ i, i < zs.length → gH H (atV (ws.map V.ref) i) = [(((zs.getD i (0, 0)).1 : Nat) : Int), (((zs.getD i (0, 0)).2 : Nat) : Int)] := fun i hi => by
  obtain ⟨e1, e2⟩ := at_R2 h hi
  rw [e1]
  show (match H (ws.getD i 0) with | some (.tup [.int a, .int b]) => [a, b] | _ => []) = _
  rw [e2]
 refine ⟨?_, ⟨by simp, fun k t z a b => ?_⟩, ?_, ?_⟩
 ·rw [List.map_map]
  exact List.map_congr_left fun i hi => (at_R2 h (lt i hi)).1
 ·rw [List.getElem?_map] at a b
  rw [List.getElem?_map] at b
  cases e : q[k]? with
  | none => rw [e] at a; cases a
  | some i =>
   rw [e] at a b
   cases a
   cases b
   exact (at_R2 h (lt i (List.mem_of_getElem? e))).2
 ·refine (pm.map _).trans ?_
  have : (List.range zs.length).map (fun k => zs.getD k (0, 0)) = zs := by
   refine List.ext_getElem? fun i => ?_
   rw [List.getElem?_map]
   by_cases c : i < zs.length
   ·rw [List.getElem?_range c]
    show some (zs.getD i (0, 0)) = _
    rw [List.getD_eq_getElem?_getD, List.getElem?_eq_getElem c]
    rfl
   ·rw [List.getElem?_eq_none (by rw [List.length_range]; omega), List.getElem?_eq_none (by omega)]
    rfl
  rw [this]
 ·rw [List.pairwise_map]
  refine pw.imp_of_mem fun {a b} ha hb hs => ?_
  unfold SR.sl ltT at hs
  rw [gv a (lt a ha), gv b (lt b hb)] at hs
  simp only [HT.lexLt_cons, HT.lexLt_nil_nil] at hs
  generalize zs.getD a (0, 0) = u at *
  generalize zs.getD b (0, 0) = v at *
  unfold PLt
  by_cases e : (u.1 : Int) = v.1
  ·rw [if_pos e, if_pos e.symm] at hs
   by_cases e2 : (u.2 : Int) = v.2
   ·omega
   ·rw [if_neg e2, if_neg (Ne.symm e2)] at hs
    simp only [decide_eq_true_eq, decide_eq_false_iff_not] at hs
    omega
  ·rw [if_neg e, if_neg (Ne.symm e)] at hs
   simp only [decide_eq_true_eq, decide_eq_false_iff_not] at hs
   omega
noncomputable def sp_law (K : PySem.W.Frag) (tp : Addr) : Sp := fun vs H Q _ => ∃ (a : Addr) (ns : List Int), vs = [.ref a] ∧ SqL K H a (ns.map V.int) ∧ ns.length ≤ 63 ∧ H tp = some (.tbl tg_by_place) ∧ ∀ H', Q (.bl true) H'
end LW
namespace LW
open PySem L2 MA PyProof.Rows MC
section
variable {P : Program} {w : World} {K : PySem.W.Frag} {mg : Str → Option Value} {base : Heap}
theorem sc_divisor : FnScope ["one", "other"] ["one", "other"] (defScope s_divisor) := ⟨rfl, rfl, rfl, by decide +kernel, rfl, by decide +kernel, by decide +kernel⟩
set_option maxHeartbeats 0 in
theorem ok_divisor {C : Cz} {f : Addr} {fd : FuncData} (F : Fun K "divisor" "divisor" s_divisor f fd) (T : Txt K mg C)  : FnOk P w K mg base (CXE P w) 1 f fd ["one", "other"] sp_divisor := by
 refine okN F (k := 0) sc_divisor (fun vs H Q E h => ?_) (fun cdv A outer s H vs Q E hr h => ?_)
 ·obtain ⟨a, b, rfl, _⟩ := h
  rfl
 ·obtain ⟨a, b, rfl, h⟩ := h
  refine' ⟨_, ?main, ?rest⟩
  case main =>
   refine' pss_cons ?c1 ?c2
   case' c1 => refine' ps_set (i := 0) sc_divisor.nd rfl (Or.inl rfl) ?c3
   case' c3 => refine' pe_callB call_abs (by rfl) T.b_abs boot_abs ?c4
   case' c4 => exact (pa_cons (pvF 0) pa_nil)
   case' c2 => refine' pss_cons ?c5 ?c6
   case' c5 => refine' ps_set (i := 1) sc_divisor.nd rfl (Or.inl rfl) ?c7
   case' c7 => refine' pe_callB call_abs (by rfl) T.b_abs boot_abs ?c8
   case' c8 => exact (pa_cons (pvF 1) pa_nil)
   case' c6 => refine' pss_cons ?c9 ?c10
   case' c9 => refine' ps_while PassesOwn.never ?c11 ?c12
   case' c11 => exact (pt_cmpF op_neI (pvF 1) pe_int (nomark _))
   case' c12 => refine' pss_one ?c13
   case' c13 => refine' ps_par (i := 0) (j := 1) rfl sc_divisor.nd rfl rfl (by decide) rfl rfl ?c14 rfl
   case' c14 => refine' pa_cons (pvF 1) ?c15
   case' c15 => exact (pa_cons (pe_op (OpR.f op_mod) (pvF 0) (pvF 1)) pa_nil)
   case' c10 => exact (pss_one (ps_ret (pvF 0)))
  case rest =>
   simp only [L2.start, List.map_cons, List.map_nil, List.length_cons, List.length_nil, Nat.reduceAdd, Nat.reduceSub, List.replicate_succ, List.replicate_zero, List.cons_append, List.nil_append, List.append_nil]
   o_head ⟨extR⟩
   refine ⟨fun m σ H' => ∃ x y : Int, σ = [some (.int x), some (.int y)] ∧ H' = H ∧ 0 ≤ x ∧ 0 ≤ y ∧ Int.gcd x y = Int.gcd a b ∧ m = y.toNat, ⟨_, _, _, rfl, rfl, ?_, ?_, ?_, rfl⟩, ?_⟩
   ·show 0 ≤ ab a
    rw [ab_eq]; omega
   ·show 0 ≤ ab b
    rw [ab_eq]; omega
   ·show Int.gcd (ab a) (ab b) = _
    rw [ab_eq, ab_eq, gcd_abs_left, gcd_abs_right]
   ·rintro m σ H' ⟨x, y, rfl, rfl, hx, hy, hg, rfl⟩
    o_head ⟨extR⟩
    by_cases hy0 : y = 0
    ·subst hy0
     rw [if_neg (by simp)]
     have e := gcd_zero hx
     rw [hg] at e
     rw [e] at h
     exact h
    ·rw [if_pos (by simpa using hy0)]
     have hp : 0 < y := by omega
     refine ⟨fun σ' H1 => ∃ x y' : Int, σ' = [some (.int x), some (.int y')] ∧ H1 = H' ∧ 0 ≤ x ∧ 0 ≤ y' ∧ Int.gcd x y' = Int.gcd a b ∧ y' < y, ?_, ?_⟩
     ·rintro σ' H1 ⟨x, y', rfl, rfl, h1, h2, h3, h4⟩
      exact ⟨y'.toNat, by omega, x, y', rfl, rfl, h1, h2, h3, rfl⟩
     ·o_head ⟨extR⟩
      exact ⟨hp, hy, Int.emod_nonneg _ hy0, by rw [gcd_step hp]; exact hg, Int.emod_lt_of_pos _ hp⟩
end
end LW
namespace LW
open PySem L2 MA PyProof.Rows MC
section
variable {P : Program} {w : World} {K : PySem.W.Frag} {mg : Str → Option Value} {base : Heap}
theorem sc_sign : FnScope ["number"] ["number"] (defScope s_sign) := ⟨rfl, rfl, rfl, by decide +kernel, rfl, by decide +kernel, by decide +kernel⟩
set_option maxHeartbeats 0 in
theorem ok_sign {C : Cz} {f : Addr} {fd : FuncData} (F : Fun K "sign" "sign" s_sign f fd) (T : Txt K mg C)  : FnOk P w K mg base (CXE P w) 1 f fd ["number"] sp_sign := by
 refine okN F (k := 0) sc_sign (fun vs H Q E h => ?_) (fun cdv A outer s H vs Q E hr h => ?_)
 ·obtain ⟨n, rfl, _⟩ := h
  rfl
 ·obtain ⟨n, rfl, h⟩ := h
  refine' ⟨_, ?main, ?rest⟩
  case main =>
   refine' pss_cons ?c1 ?c2
   case' c1 => refine' ps_if ?c3 ?c4 pss_nil
   case' c3 => exact (pt_cmpF (OpR.f0 op_lt) (pvF 0) pe_int (nomark _))
   case' c4 => refine' pss_one ?c5
   case' c5 => refine' ps_ret ?c6
   case' c6 => exact (pe_un (UnR.f un_neg) pe_int)
   case' c2 => refine' pss_cons ?c7 ?c8
   case' c7 => refine' ps_if ?c9 ?c10 pss_nil
   case' c9 => exact (pt_cmpF (OpR.f0 op_gt) (pvF 0) pe_int (nomark _))
   case' c10 => refine' pss_one ?c11
   case' c11 => exact (ps_ret pe_int)
   case' c8 => refine' pss_one ?c12
   case' c12 => exact (ps_ret pe_int)
  case rest =>
   simp only [L2.start, List.map_cons, List.map_nil, List.length_cons, List.length_nil, Nat.reduceAdd, Nat.reduceSub, List.replicate_succ, List.replicate_zero, List.cons_append, List.nil_append, List.append_nil]
   o_head ⟨extR⟩
   unfold sgn at h
   split
   ·rename_i z
    rw [if_pos z] at h
    exact h
   ·rename_i z
    rw [if_neg z] at h
    split
    ·rename_i z
     rw [if_pos z] at h
     exact h
    ·rename_i z
     rw [if_neg z] at h
     exact h
end
end LW
namespace LW
open PySem L2 MA PyProof.Rows MC
section
variable {P : Program} {w : World} {K : PySem.W.Frag} {mg : Str → Option Value} {base : Heap}
theorem sc_point_of : FnScope ["x", "y", "w", "common"] ["x", "y", "w"] (defScope s_point_of) := ⟨rfl, rfl, rfl, by decide +kernel, rfl, by decide +kernel, by decide +kernel⟩
set_option maxHeartbeats 0 in
theorem ok_point_of {C : Cz} {f : Addr} {fd : FuncData} (F : Fun K "point_of" "point_of" s_point_of f fd) (T : Txt K mg C) (F_divisor : FnB P w K mg base (CXE P w) 1 "divisor" ["one", "other"] sp_divisor) (F_sign : FnB P w K mg base (CXE P w) 1 "sign" ["number"] sp_sign) : FnOk P w K mg base (CXE P w) 2 f fd ["x", "y", "w"] sp_point_of := by
 refine okN F (k := 1) sc_point_of (fun vs H Q E h => ?_) (fun cdv A outer s H vs Q E hr h => ?_)
 ·obtain ⟨x, y, u, rfl, _⟩ := h
  rfl
 ·obtain ⟨x, y, u, rfl, h⟩ := h
  refine' ⟨_, ?main, ?rest⟩
  case main =>
   refine' pss_cons ?c1 ?c2
   case' c1 => refine' ps_if ?c3 ?c4 pss_nil
   case' c3 => exact (pt_cmpF op_eqI (pvF 2) pe_int (nomark _))
   case' c4 => exact (pss_one ps_never)
   case' c2 => refine' pss_cons ?c5 ?c6
   case' c5 => refine' ps_set (i := 3) ?c7 ?c8 ?c9 ?c10
   case c7 => exact sc_point_of.nd
   case c8 => exact rfl
   case c9 => exact (Or.inl rfl)
   case' c10 => refine' pe_op ?c11 ?c12 ?c13
   case c11 => exact (OpR.f op_mulA)
   case' c12 => refine' pe_fn F_divisor (hr.mono (by decide)) rfl passE0 ?c14
   case' c14 => refine' pa_cons ?c15 ?c16
   case' c15 => refine' pe_fn F_divisor (hr.mono (by decide)) rfl passE0 ?c17
   case' c17 => refine' pa_cons (pvF 2) ?c18
   case' c18 => exact (pa_cons (pvF 0) pa_nil)
   case' c16 => exact (pa_cons (pvF 1) pa_nil)
   case' c13 => refine' pe_fn F_sign (hr.mono (by decide)) rfl passE0 ?c19
   case' c19 => exact (pa_cons (pvF 2) pa_nil)
   case' c6 => refine' pss_one ?c20
   case' c20 => refine' ps_ret ?c21
   case' c21 => refine' pe_tup ?c22
   case' c22 => refine' pa_cons (pe_op (OpR.f op_fdivB) (pvF 0) (pvF 3)) ?c23
   case' c23 => refine' pa_cons (pe_op (OpR.f op_fdivB) (pvF 1) (pvF 3)) ?c24
   case' c24 => exact (pa_cons (pe_op (OpR.f op_fdivB) (pvF 2) (pvF 3)) pa_nil)
  case rest =>
   obtain ⟨hw, hb, h⟩ := h
   simp only [L2.start, List.map_cons, List.map_nil, List.length_cons, List.length_nil, Nat.reduceAdd, Nat.reduceSub, List.replicate_succ, List.replicate_zero, List.cons_append, List.nil_append, List.append_nil]
   rw [tSeq] 
   o_head ⟨extR, sp_divisor, sp_sign, hw⟩
   have hc : com x y u = (Int.gcd (Int.gcd u x) y : Int) * sgn u := rfl
   rw [← hc]
   have h1 : com x y u ≠ 0 := com_ne hw
   have h2 : Bd 9000 (com x y u) := by
    refine Bd.mono (m := 8000) ?_ (by decide)
    have := (com_dvd x y u hw).2.2
    exact Nat.lt_of_le_of_lt (Nat.le_of_dvd (by omega) (Int.natAbs_dvd_natAbs.mpr this)) hb
   refine ⟨.inl (.inr ?_), h1, h2, h1, h2, h1, h2, by decide, fun p hp => h p _ _ _ hp (isPt_of hw)⟩
   rcases sgn_range u with e | e | e <;> rw [e] <;> decide
end
end LW
namespace LW
open PySem L2 MA PyProof.Rows MC
section
variable {P : Program} {w : World} {K : PySem.W.Frag} {mg : Str → Option Value} {base : Heap}
theorem sc_spot_point : FnScope ["spot"] ["spot"] (defScope s_spot_point) := ⟨rfl, rfl, rfl, by decide +kernel, rfl, by decide +kernel, by decide +kernel⟩
set_option maxHeartbeats 0 in
theorem ok_spot_point {C : Cz} {f : Addr} {fd : FuncData} (F : Fun K "spot_point" "spot_point" s_spot_point f fd) (T : Txt K mg C)  : FnOk P w K mg base (CXE P w) 1 f fd ["spot"] sp_spot_point := by
 refine okN F (k := 0) sc_spot_point (fun vs H Q E h => ?_) (fun cdv A outer s H vs Q E hr h => ?_)
 ·obtain ⟨p, a, b, rfl, _⟩ := h
  rfl
 ·obtain ⟨p, a, b, rfl, h⟩ := h
  refine' ⟨_, ?main, ?rest⟩
  case main =>
   refine' pss_one ?c1
   case' c1 => refine' ps_ret ?c2
   case' c2 => refine' pe_tup ?c3
   case' c3 => refine' pa_cons ?c4 ?c5
   case' c4 => exact (pe_ix ix_F (pvF 0) pe_int (fun _ _ => rfl))
   case' c5 => refine' pa_cons ?c6 ?c7
   case' c6 => exact (pe_ix ix_F (pvF 0) pe_int (fun _ _ => rfl))
   case' c7 => exact (pa_cons pe_int pa_nil)
  case rest =>
   obtain ⟨hp, h⟩ := h
   simp only [L2.start, List.map_cons, List.map_nil, List.length_cons, List.length_nil, Nat.reduceAdd, Nat.reduceSub, List.replicate_succ, List.replicate_zero, List.cons_append, List.nil_append, List.append_nil]
   o_head ⟨extR, hp⟩
   exact ⟨by decide, h⟩
end
end LW
namespace LW
open PySem L2 MA PyProof.Rows MC
section
variable {P : Program} {w : World} {K : PySem.W.Frag} {mg : Str → Option Value} {base : Heap}
theorem sc_fraction_of : FnScope ["top", "bottom", "common"] ["top", "bottom"] (defScope s_fraction_of) := ⟨rfl, rfl, rfl, by decide +kernel, rfl, by decide +kernel, by decide +kernel⟩
set_option maxHeartbeats 0 in
theorem ok_fraction_of {C : Cz} {f : Addr} {fd : FuncData} (F : Fun K "fraction_of" "fraction_of" s_fraction_of f fd) (T : Txt K mg C) (F_divisor : FnB P w K mg base (CXE P w) 1 "divisor" ["one", "other"] sp_divisor) (F_sign : FnB P w K mg base (CXE P w) 1 "sign" ["number"] sp_sign) : FnOk P w K mg base (CXE P w) 2 f fd ["top", "bottom"] sp_fraction_of := by
 refine okN F (k := 1) sc_fraction_of (fun vs H Q E h => ?_) (fun cdv A outer s H vs Q E hr h => ?_)
 ·obtain ⟨x, u, rfl, _⟩ := h
  rfl
 ·obtain ⟨x, u, rfl, h⟩ := h
  refine' ⟨_, ?main, ?rest⟩
  case main =>
   refine' pss_cons ?c1 ?c2
   case' c1 => refine' ps_if ?c3 ?c4 pss_nil
   case' c3 => exact (pt_cmpF op_eqI (pvF 1) pe_int (nomark _))
   case' c4 => exact (pss_one ps_never)
   case' c2 => refine' pss_cons ?c5 ?c6
   case' c5 => refine' ps_set (i := 2) sc_fraction_of.nd rfl (Or.inl rfl) ?c7
   case' c7 => refine' pe_op (OpR.f op_mulA) ?c8 ?c9
   case' c8 => refine' pe_fn F_divisor (hr.mono (by decide)) rfl passE0 ?c10
   case' c10 => refine' pa_cons (pvF 1) ?c11
   case' c11 => exact (pa_cons (pvF 0) pa_nil)
   case' c9 => refine' pe_fn F_sign (hr.mono (by decide)) rfl passE0 ?c12
   case' c12 => exact (pa_cons (pvF 1) pa_nil)
   case' c6 => refine' pss_one ?c13
   case' c13 => refine' ps_ret ?c14
   case' c14 => refine' pe_tup ?c15
   case' c15 => refine' pa_cons (pe_op (OpR.f op_fdivB) (pvF 0) (pvF 2)) ?c16
   case' c16 => exact (pa_cons (pe_op (OpR.f op_fdivB) (pvF 1) (pvF 2)) pa_nil)
  case rest =>
   obtain ⟨hw, hb, h⟩ := h
   simp only [L2.start, List.map_cons, List.map_nil, List.length_cons, List.length_nil, Nat.reduceAdd, Nat.reduceSub, List.replicate_succ, List.replicate_zero, List.cons_append, List.nil_append, List.append_nil]
   o_head ⟨extR, sp_divisor, sp_sign, hw⟩
   have hc : com x 0 u = (Int.gcd u x : Int) * sgn u := by unfold com; simp
   rw [← hc]
   have h1 : com x 0 u ≠ 0 := com_ne hw
   have h2 : Bd 9000 (com x 0 u) := by
    refine Bd.mono (m := 8000) ?_ (by decide)
    have := (com_dvd x 0 u hw).2.2
    exact Nat.lt_of_le_of_lt (Nat.le_of_dvd (by omega) (Int.natAbs_dvd_natAbs.mpr this)) hb
   have h3 := isFr_of (x := x) hw
   rw [← hc] at h3
   refine ⟨.inl (.inr ?_), h1, h2, h1, h2, by decide, fun p hp => h p _ _ hp h3⟩
   rcases sgn_range u with e | e | e <;> rw [e] <;> decide
end
end LW
namespace LW
open PySem L2 MA PyProof.Rows MC
section
variable {P : Program} {w : World} {K : PySem.W.Frag} {mg : Str → Option Value} {base : Heap}
theorem sc_less : FnScope ["one", "other"] ["one", "other"] (defScope s_less) := ⟨rfl, rfl, rfl, by decide +kernel, rfl, by decide +kernel, by decide +kernel⟩
set_option maxHeartbeats 0 in
theorem ok_less {C : Cz} {f : Addr} {fd : FuncData} (F : Fun K "less" "less" s_less f fd) (T : Txt K mg C)  : FnOk P w K mg base (CXE P w) 1 f fd ["one", "other"] sp_less := by
 refine okN F (k := 0) sc_less (fun vs H Q E h => ?_) (fun cdv A outer s H vs Q E hr h => ?_)
 ·obtain ⟨p, q, a, b, c, d, rfl, _⟩ := h
  rfl
 ·obtain ⟨p, q, a, b, c, d, rfl, h⟩ := h
  refine' ⟨_, ?main, ?rest⟩
  case main =>
   refine' pss_one ?c1
   case' c1 => refine' ps_ret ?c2
   case' c2 => refine' pe_cmpR ?c3 ?c4 ?c5 ?c6
   case c3 => exact (OpR.f0 op_lt)
   case' c4 => refine' pe_op (OpR.f op_mulA) ?c7 ?c8
   case' c7 => exact (pe_ix ix_F (pvF 0) pe_int (fun _ _ => rfl))
   case' c8 => exact (pe_ix ix_F (pvF 1) pe_int (fun _ _ => rfl))
   case' c5 => refine' pe_op (OpR.f op_mulA) ?c9 ?c10
   case' c9 => exact (pe_ix ix_F (pvF 1) pe_int (fun _ _ => rfl))
   case' c10 => exact (pe_ix ix_F (pvF 0) pe_int (fun _ _ => rfl))
   case c6 => exact (nomark _)
  case rest =>
   obtain ⟨hp, hq, ⟨b1, b2, b3, b4⟩, h⟩ := h
   simp only [L2.start, List.map_cons, List.map_nil, List.length_cons, List.length_nil, Nat.reduceAdd, Nat.reduceSub, List.replicate_succ, List.replicate_zero, List.cons_append, List.nil_append, List.append_nil]
   o_head ⟨extR, hp, hq⟩
   exact ⟨(by first | exact CMulA.left (by decide) (by decide) | exact CMulA.right (by decide) (by decide) | (apply CMulA.of; (repeat (first | assumption | apply Bd.mul | apply Bd.sub | apply Bd.add | apply Bd.neg | apply Bd.sq)); all_goals decide)), (by first | exact CMulA.left (by decide) (by decide) | exact CMulA.right (by decide) (by decide) | (apply CMulA.of; (repeat (first | assumption | apply Bd.mul | apply Bd.sub | apply Bd.add | apply Bd.neg | apply Bd.sq)); all_goals decide)), h⟩
end
end LW
namespace LW
open PySem L2 MA PyProof.Rows MC
section
variable {P : Program} {w : World} {K : PySem.W.Frag} {mg : Str → Option Value} {base : Heap}
theorem sc_ahead : FnScope ["one", "other", "across"] ["one", "other"] (defScope s_ahead) := ⟨rfl, rfl, rfl, by decide +kernel, rfl, by decide +kernel, by decide +kernel⟩
set_option maxHeartbeats 0 in
theorem ok_ahead {C : Cz} {f : Addr} {fd : FuncData} (F : Fun K "ahead" "ahead" s_ahead f fd) (T : Txt K mg C)  : FnOk P w K mg base (CXE P w) 1 f fd ["one", "other"] sp_ahead := by
 refine okN F (k := 0) sc_ahead (fun vs H Q E h => ?_) (fun cdv A outer s H vs Q E hr h => ?_)
 ·obtain ⟨p, q, rfl, _⟩ := h
  rfl
 ·obtain ⟨p, q, rfl, h⟩ := h
  refine' ⟨_, ?main, ?rest⟩
  case main =>
   refine' pss_cons ?c1 ?c2
   case' c1 => refine' ps_set (i := 2) ?c3 ?c4 ?c5 ?c6
   case c3 => exact sc_ahead.nd
   case c4 => exact rfl
   case c5 => exact (Or.inl rfl)
   case' c6 => refine' pe_op ?c7 ?c8 ?c9
   case c7 => exact (OpR.f0 op_sub)
   case' c8 => refine' pe_op (OpR.f op_mulA) ?c10 ?c11
   case' c10 => exact (pe_ix ix_F (pvF 0) pe_int (fun _ _ => rfl))
   case' c11 => exact (pe_ix ix_F (pvF 1) pe_int (fun _ _ => rfl))
   case' c9 => refine' pe_op (OpR.f op_mulA) ?c12 ?c13
   case' c12 => exact (pe_ix ix_F (pvF 1) pe_int (fun _ _ => rfl))
   case' c13 => exact (pe_ix ix_F (pvF 0) pe_int (fun _ _ => rfl))
   case' c2 => refine' pss_cons ?c14 ?c15
   case' c14 => refine' ps_if ?c16 ?c17 pss_nil
   case' c16 => exact (pt_cmpF op_neI (pvF 2) pe_int (nomark _))
   case' c17 => refine' pss_one ?c18
   case' c18 => refine' ps_ret ?c19
   case' c19 => exact (pe_cmpR (OpR.f0 op_lt) (pvF 2) pe_int (nomark _))
   case' c15 => refine' pss_one ?c20
   case' c20 => refine' ps_ret ?c21
   case' c21 => refine' pe_cmpR ?c22 ?c23 ?c24 ?c25
   case c22 => exact (OpR.f0 op_lt)
   case' c23 => refine' pe_op (OpR.f op_mulA) ?c26 ?c27
   case' c26 => exact (pe_ix ix_F (pvF 0) pe_int (fun _ _ => rfl))
   case' c27 => exact (pe_ix ix_F (pvF 1) pe_int (fun _ _ => rfl))
   case' c24 => refine' pe_op (OpR.f op_mulA) ?c28 ?c29
   case' c28 => exact (pe_ix ix_F (pvF 1) pe_int (fun _ _ => rfl))
   case' c29 => exact (pe_ix ix_F (pvF 0) pe_int (fun _ _ => rfl))
   case c25 => exact (nomark _)
  case rest =>
   obtain ⟨⟨a, b, c⟩, hp, h⟩ := optK_elim h
   obtain ⟨⟨d, e, f⟩, hq, ⟨b1, b2, b3⟩, ⟨b4, b5, b6⟩, h⟩ := optK_elim h
   replace hp := tup3_eq hp
   replace hq := tup3_eq hq
   dsimp only at hp hq b1 b2 b3 b4 b5 b6 h
   simp only [L2.start, List.map_cons, List.map_nil, List.length_cons, List.length_nil, Nat.reduceAdd, Nat.reduceSub, List.replicate_succ, List.replicate_zero, List.cons_append, List.nil_append, List.append_nil]
   o_head ⟨extR, hp, hq⟩
   refine ⟨(by first | exact CMulA.left (by decide) (by decide) | exact CMulA.right (by decide) (by decide) | (apply CMulA.of; (repeat (first | assumption | apply Bd.mul | apply Bd.sub | apply Bd.add | apply Bd.neg | apply Bd.sq)); all_goals decide)), (by first | exact CMulA.left (by decide) (by decide) | exact CMulA.right (by decide) (by decide) | (apply CMulA.of; (repeat (first | assumption | apply Bd.mul | apply Bd.sub | apply Bd.add | apply Bd.neg | apply Bd.sq)); all_goals decide)), ?_⟩
   unfold aheadB at h
   by_cases z : a * f - d * c = 0
   ·rw [if_neg (by simpa using z)] at h
    rw [if_neg (by simpa using z)]
    exact ⟨(by first | exact CMulA.left (by decide) (by decide) | exact CMulA.right (by decide) (by decide) | (apply CMulA.of; (repeat (first | assumption | apply Bd.mul | apply Bd.sub | apply Bd.add | apply Bd.neg | apply Bd.sq)); all_goals decide)), (by first | exact CMulA.left (by decide) (by decide) | exact CMulA.right (by decide) (by decide) | (apply CMulA.of; (repeat (first | assumption | apply Bd.mul | apply Bd.sub | apply Bd.add | apply Bd.neg | apply Bd.sq)); all_goals decide)), h⟩
   ·rw [if_pos (by simpa using z)] at h
    rw [if_pos (by simpa using z)]
    exact h
end
end LW
namespace LW
open PySem L2 MA PyProof.Rows MC
section
variable {P : Program} {w : World} {K : PySem.W.Frag} {mg : Str → Option Value} {base : Heap}
theorem sc_turn : FnScope ["one", "other", "third"] ["one", "other", "third"] (defScope s_turn) := ⟨rfl, rfl, rfl, by decide +kernel, rfl, by decide +kernel, by decide +kernel⟩
set_option maxHeartbeats 0 in
theorem ok_turn {C : Cz} {f : Addr} {fd : FuncData} (F : Fun K "turn" "turn" s_turn f fd) (T : Txt K mg C) (F_sign : FnB P w K mg base (CXE P w) 1 "sign" ["number"] sp_sign) : FnOk P w K mg base (CXE P w) 2 f fd ["one", "other", "third"] sp_turn := by
 refine okN F (k := 1) sc_turn (fun vs H Q E h => ?_) (fun cdv A outer s H vs Q E hr h => ?_)
 ·obtain ⟨p, q, r, rfl, _⟩ := h
  rfl
 ·obtain ⟨p, q, r, rfl, h⟩ := h
  refine' ⟨_, ?main, ?rest⟩
  case main =>
   refine' pss_one ?c1
   case' c1 => refine' ps_ret ?c2
   case' c2 => refine' pe_fn ?c3 ?c4 ?c5 ?c6 ?c7
   case c3 => exact F_sign
   case c4 => exact (hr.mono (by decide))
   case c5 => exact rfl
   case c6 => exact passE0
   case' c7 => refine' pa_cons ?c8 ?c9
   case' c8 => refine' pe_op ?c10 ?c11 ?c12
   case c10 => exact (OpR.f0 op_add)
   case' c11 => refine' pe_op ?c13 ?c14 ?c15
   case c13 => exact (OpR.f0 op_sub)
   case' c14 => refine' pe_op ?c16 ?c17 ?c18
   case c16 => exact (OpR.f op_mulA)
   case' c17 => exact (pe_ix ix_F (pvF 0) pe_int (fun _ _ => rfl))
   case' c18 => refine' pe_op ?c19 ?c20 ?c21
   case c19 => exact (OpR.f0 op_sub)
   case' c20 => refine' pe_op (OpR.f op_mulA) ?c22 ?c23
   case' c22 => exact (pe_ix ix_F (pvF 1) pe_int (fun _ _ => rfl))
   case' c23 => exact (pe_ix ix_F (pvF 2) pe_int (fun _ _ => rfl))
   case' c21 => refine' pe_op (OpR.f op_mulA) ?c24 ?c25
   case' c24 => exact (pe_ix ix_F (pvF 2) pe_int (fun _ _ => rfl))
   case' c25 => exact (pe_ix ix_F (pvF 1) pe_int (fun _ _ => rfl))
   case' c15 => refine' pe_op ?c26 ?c27 ?c28
   case c26 => exact (OpR.f op_mulA)
   case' c27 => exact (pe_ix ix_F (pvF 0) pe_int (fun _ _ => rfl))
   case' c28 => refine' pe_op ?c29 ?c30 ?c31
   case c29 => exact (OpR.f0 op_sub)
   case' c30 => refine' pe_op (OpR.f op_mulA) ?c32 ?c33
   case' c32 => exact (pe_ix ix_F (pvF 1) pe_int (fun _ _ => rfl))
   case' c33 => exact (pe_ix ix_F (pvF 2) pe_int (fun _ _ => rfl))
   case' c31 => refine' pe_op (OpR.f op_mulA) ?c34 ?c35
   case' c34 => exact (pe_ix ix_F (pvF 2) pe_int (fun _ _ => rfl))
   case' c35 => exact (pe_ix ix_F (pvF 1) pe_int (fun _ _ => rfl))
   case' c12 => refine' pe_op ?c36 ?c37 ?c38
   case c36 => exact (OpR.f op_mulA)
   case' c37 => exact (pe_ix ix_F (pvF 0) pe_int (fun _ _ => rfl))
   case' c38 => refine' pe_op ?c39 ?c40 ?c41
   case c39 => exact (OpR.f0 op_sub)
   case' c40 => refine' pe_op (OpR.f op_mulA) ?c42 ?c43
   case' c42 => exact (pe_ix ix_F (pvF 1) pe_int (fun _ _ => rfl))
   case' c43 => exact (pe_ix ix_F (pvF 2) pe_int (fun _ _ => rfl))
   case' c41 => refine' pe_op (OpR.f op_mulA) ?c44 ?c45
   case' c44 => exact (pe_ix ix_F (pvF 2) pe_int (fun _ _ => rfl))
   case' c45 => exact (pe_ix ix_F (pvF 1) pe_int (fun _ _ => rfl))
   case c9 => exact pa_nil
  case rest =>
   obtain ⟨⟨a, b, c⟩, hp, h⟩ := optK_elim h
   obtain ⟨⟨d, e, f⟩, hq, h⟩ := optK_elim h
   obtain ⟨⟨g, u, i⟩, hr', ⟨b1, b2, b3⟩, ⟨b4, b5, b6⟩, ⟨b7, b8, b9⟩, h⟩ := optK_elim h
   replace hp := tup3_eq hp
   replace hq := tup3_eq hq
   replace hr' := tup3_eq hr'
   dsimp only at hp hq hr' b1 b2 b3 b4 b5 b6 b7 b8 b9 h
   simp only [L2.start, List.map_cons, List.map_nil, List.length_cons, List.length_nil, Nat.reduceAdd, Nat.reduceSub, List.replicate_succ, List.replicate_zero, List.cons_append, List.nil_append, List.append_nil]
   o_head ⟨extR, hp, hq, hr', sp_sign⟩
   exact ⟨(by first | exact CMulA.left (by decide) (by decide) | exact CMulA.right (by decide) (by decide) | (apply CMulA.of; (repeat (first | assumption | apply Bd.mul | apply Bd.sub | apply Bd.add | apply Bd.neg | apply Bd.sq)); all_goals decide)), (by first | exact CMulA.left (by decide) (by decide) | exact CMulA.right (by decide) (by decide) | (apply CMulA.of; (repeat (first | assumption | apply Bd.mul | apply Bd.sub | apply Bd.add | apply Bd.neg | apply Bd.sq)); all_goals decide)), (by first | exact CMulA.left (by decide) (by decide) | exact CMulA.right (by decide) (by decide) | (apply CMulA.of; (repeat (first | assumption | apply Bd.mul | apply Bd.sub | apply Bd.add | apply Bd.neg | apply Bd.sq)); all_goals decide)), (by first | exact CMulA.left (by decide) (by decide) | exact CMulA.right (by decide) (by decide) | (apply CMulA.of; (repeat (first | assumption | apply Bd.mul | apply Bd.sub | apply Bd.add | apply Bd.neg | apply Bd.sq)); all_goals decide)), (by first | exact CMulA.left (by decide) (by decide) | exact CMulA.right (by decide) (by decide) | (apply CMulA.of; (repeat (first | assumption | apply Bd.mul | apply Bd.sub | apply Bd.add | apply Bd.neg | apply Bd.sq)); all_goals decide)), (by first | exact CMulA.left (by decide) (by decide) | exact CMulA.right (by decide) (by decide) | (apply CMulA.of; (repeat (first | assumption | apply Bd.mul | apply Bd.sub | apply Bd.add | apply Bd.neg | apply Bd.sq)); all_goals decide)), (by first | exact CMulA.left (by decide) (by decide) | exact CMulA.right (by decide) (by decide) | (apply CMulA.of; (repeat (first | assumption | apply Bd.mul | apply Bd.sub | apply Bd.add | apply Bd.neg | apply Bd.sq)); all_goals decide)), (by first | exact CMulA.left (by decide) (by decide) | exact CMulA.right (by decide) (by decide) | (apply CMulA.of; (repeat (first | assumption | apply Bd.mul | apply Bd.sub | apply Bd.add | apply Bd.neg | apply Bd.sq)); all_goals decide)), (by first | exact CMulA.left (by decide) (by decide) | exact CMulA.right (by decide) (by decide) | (apply CMulA.of; (repeat (first | assumption | apply Bd.mul | apply Bd.sub | apply Bd.add | apply Bd.neg | apply Bd.sq)); all_goals decide)), h⟩
end
end LW
namespace LW
open PySem L2 MA PyProof.Rows MC
section
variable {P : Program} {w : World} {K : PySem.W.Frag} {mg : Str → Option Value} {base : Heap}
theorem sc_check_count : FnScope ["spots"] ["spots"] (defScope s_check_count) := ⟨rfl, rfl, rfl, by decide +kernel, rfl, by decide +kernel, by decide +kernel⟩
set_option maxHeartbeats 0 in
theorem ok_check_count {C : Cz} {f : Addr} {fd : FuncData} (F : Fun K "check_count" "check_count" s_check_count f fd) (T : Txt K mg C)  : FnOk P w K mg base (CXE P w) 1 f fd ["spots"] sp_check_count := by
 refine okN F (k := 0) sc_check_count (fun vs H Q E h => ?_) (fun cdv A outer s H vs Q E hr h => ?_)
 ·obtain ⟨l, xs, rfl, _⟩ := h
  rfl
 ·obtain ⟨l, xs, rfl, h⟩ := h
  refine' ⟨_, ?main, ?rest⟩
  case main =>
   refine' pss_one ?c1
   case' c1 => refine' ps_if ?c2 ?c3 ?c4
   case' c2 => refine' PW.pt ?c5
   case' c5 => refine' pw_or ?c6 ?c7
   case' c6 => refine' pt_cmpF op_eqI ?c8 pe_int (nomark _)
   case' c8 => refine' pe_callB call_lenF (by rfl) T.b_len PySem.boot_len ?c9
   case' c9 => exact (pa_cons (pvF 0) pa_nil)
   case' c7 => refine' pw_or1 ?c10
   case' c10 => refine' pt_cmpF (OpR.f0 op_gt) ?c11 (pe_globI rfl T.n_MOST_SPOTS) (nomark _)
   case' c11 => refine' pe_callB call_lenF (by rfl) T.b_len PySem.boot_len ?c12
   case' c12 => exact (pa_cons (pvF 0) pa_nil)
   case' c3 => exact (pss_one ps_never)
   case c4 => exact pss_nil
  case rest =>
   obtain ⟨hl, h0, h12, h⟩ := h
   simp only [L2.start, List.map_cons, List.map_nil, List.length_cons, List.length_nil, Nat.reduceAdd, Nat.reduceSub, List.replicate_succ, List.replicate_zero, List.cons_append, List.nil_append, List.append_nil]
   o_head ⟨extR, hl⟩
   rw [if_neg (by omega), if_neg (by omega)]
   exact h
end
end LW
namespace LW
open PySem L2 MA PyProof.Rows MC
section
variable {P : Program} {w : World} {K : PySem.W.Frag} {mg : Str → Option Value} {base : Heap}
theorem sc_check_spots : FnScope ["spots", "number", "spot"] ["spots"] (defScope s_check_spots) := ⟨rfl, rfl, rfl, by decide +kernel, rfl, by decide +kernel, by decide +kernel⟩
set_option maxHeartbeats 0 in
theorem ok_check_spots {C : Cz} {f : Addr} {fd : FuncData} (F : Fun K "check_spots" "check_spots" s_check_spots f fd) (T : Txt K mg C) (F_check_count : FnB P w K mg base (CXE P w) 1 "check_count" ["spots"] sp_check_count) : FnOk P w K mg base (CXE P w) 2 f fd ["spots"] (sp_cs K) := by
 refine okN F (k := 1) sc_check_spots (fun vs H Q E h => ?_) (fun cdv A outer s H vs Q E hr h => ?_)
 ·obtain ⟨l, qs, rs, rfl, _⟩ := h
  rfl
 ·obtain ⟨l, qs, rs, rfl, h⟩ := h
  refine' ⟨_, ?main, ?rest⟩
  case main =>
   refine' pss_cons ?c1 ?c2
   case' c1 => refine' ps_expr ?c3
   case' c3 => refine' pe_fn F_check_count (hr.mono (by decide)) rfl passE0 ?c4
   case' c4 => exact (pa_cons (pvF 0) pa_nil)
   case' c2 => refine' pss_one ?c5
   case' c5 => refine' ps_for ?c6 ?c7 ?c8 ?c9 ?c10
   case c6 => exact PassesOwn.never
   case c7 => exact rfl
   case' c8 => refine' pi_enum (K := K) rfl rfl T.b_enumerate ?c11
   case' c11 => exact (pa_cons (pvF 0) pa_nil)
   case' c9 => refine' pg_F (n := 2) rfl ?c12
   case' c12 => refine' pgs_consF (pg_name (i := 1) sc_check_spots.nd rfl (Or.inl rfl)) ?c13
   case' c13 => exact (pgs_consF (pg_name (i := 2) sc_check_spots.nd rfl (Or.inl rfl)) pgs_nilF)
   case' c10 => refine' pss_one ?c14
   case' c14 => refine' ps_if ?c15 ?c16 pss_nil
   case' c15 => refine' pt_cmpF (op_inDK (K := K) rfl (hu65 hr)) (pvF 2) ?c17 (by with_unfolding_all rfl)
   case' c17 => exact (pe_slice sl_F (pvF 0) po_none (po_some (pvF 1)))
   case' c16 => exact (pss_one ps_never)
  case rest =>
   obtain ⟨ok, h⟩ := h
   simp only [L2.start, List.map_cons, List.map_nil, List.length_cons, List.length_nil, Nat.reduceAdd, Nat.reduceSub, List.replicate_succ, List.replicate_zero, List.cons_append, List.nil_append, List.append_nil]
   o_head ⟨extR, sp_check_count⟩
   have lq : (qs.map V.ref).length = rs.length := by rw [List.length_map, ok.at_.1]
   refine ⟨_, ok.sp, by rw [lq]; exact ok.n0, by rw [lq]; exact ok.n12, ?_⟩
   refine tfor_enum (fun a' H1 => a' = l ∧ H1 = H) ?_ ?_
   ·intro R hR
    o_head ⟨extR⟩
    exact hR _ _ ⟨rfl, rfl⟩
   ·rintro _ _ ⟨rfl, rfl⟩
    refine ⟨qs.map V.ref, fun i σ H' => ∃ o2 o3 : Option V, σ = [some (.ref _), o2, o3] ∧ Ext _ H', ⟨_, _, rfl, .refl _⟩, ?_, ?_, ?_⟩
    ·rintro i σ H' _ ⟨o2, o3, rfl, x'⟩
     exact SqL.of (x' _ _ ok.sp)
    ·rintro i w1 t σ H' hi ⟨o2, o3, rfl, x'⟩ ht
     obtain ⟨q, hq, rfl⟩ := refs_get hi
     obtain ⟨r, hr1, hr2⟩ := ok.at_.at hq
     have xt := x'.then (o := .tup [.int (i : Int), .ref q]) ht
     have et := upd_same (H := H') (a := t) (o := .tup [.int (i : Int), .ref q])
     generalize upd H' t (.tup [.int (i : Int), .ref q]) = H2 at xt et ⊢
     have ok2 := ok.ext xt
     o_head ⟨extR, gSeqF, gCons, gNil, et, ok2.sp⟩
     rw [cut_to]
     refine fun s1 h1 => ?_
     have ok4 := ok2.ext (Ext.upd (o := .lst ((qs.map V.ref).take i)) h1)
     refine ⟨t2d r, (rs.take i).map t2d, rdy_t2 (upd_f h1 (xt _ _ hr2)), .lst (xs := (qs.take i).map V.ref) (SqL.of ?_) (rdy_rs (ok4.at_.take i)), shaped_t2 r, shaped_rs _, ?_, ?_⟩
     ·rw [upd_same, List.map_take]
     ·intro y hy
      obtain ⟨z', _, rfl⟩ := List.mem_map.mp hy
      exact nomix_t2 z' r
     ·rw [not_before ok.nd hr1]
      o_head ⟨extR⟩
      exact xt.then h1
    ·rintro σ H' ⟨o2, o3, rfl, x'⟩
     exact h _ x'
end
end LW
namespace LW
open PySem L2 MA PyProof.Rows MC
section
variable {P : Program} {w : World} {K : PySem.W.Frag} {mg : Str → Option Value} {base : Heap}
theorem sc_by_place : FnScope ["spots"] ["spots"] (defScope s_by_place) := ⟨rfl, rfl, rfl, by decide +kernel, rfl, by decide +kernel, by decide +kernel⟩
set_option maxHeartbeats 0 in
theorem ok_by_place {C : Cz} {f : Addr} {fd : FuncData} (F : Fun K "by_place" "by_place" s_by_place f fd) (T : Txt K mg C) (L_by_place : LamF K f C.lc_by_place) (B_by_place : LamB mg base C.lc_by_place C.lp_by_place)  : FnOk P w K mg base (CXE P w) 2 f fd ["spots"] (sp_place K C) := by
 refine okLN F L_by_place (k := 1) sc_by_place (fun vs H Q E h => ?_) (fun A outer s H vs Q E hr h => ?_)
 ·obtain ⟨l, qs, rs, rfl, _⟩ := h
  rfl
 ·obtain ⟨l, qs, rs, rfl, h⟩ := h
  refine' ⟨_, ?main, ?rest⟩
  case main =>
   refine' pss_one ?c1
   case' c1 => refine' ps_ret ?c2
   case' c2 => refine' pe_sortKT (K := K) (tag := tg_by_place) (N := ["number", "spots"]) (js := [0]) rfl rfl (by rfl) T.b_sorted boot_sorted hr B_by_place rfl rfl (CScope.of_ok (dsc := defScope s_by_place) (N0 := ["spots"]) (N := ["number", "spots"]) (k := 1) (js := [0]) rfl rfl (by decide +kernel)) rfl (by decide +kernel) rfl rfl (fun _ _ _ _ _ => rfl) rfl ?c3 ?c4 rfl rfl
   case' c3 => refine' pe_callTy call_rng1 (by rfl) T.b_range boot_range ?c5
   case' c5 => refine' pa_cons ?c6 pa_nil
   case' c6 => refine' pe_callB call_lenF (by rfl) T.b_len PySem.boot_len ?c7
   case' c7 => exact (pa_cons (pvF 0) pa_nil)
   case' c4 => intro _ _ _ _ _ _ _; exact (pe_ix ix_F (pvF 1) (pvF 0) (fun _ _ => rfl))
  case rest =>
   obtain ⟨hl, hR2, n12, tb, h⟩ := h
   have lq : (qs.map V.ref).length = rs.length := by rw [List.length_map, hR2.1]
   simp only [L2.start, List.map_cons, List.map_nil, List.length_cons, List.length_nil, Nat.reduceAdd, Nat.reduceSub, List.replicate_succ, List.replicate_zero, List.cons_append, List.nil_append, List.append_nil]
   o_head ⟨extR, hl, lq⟩
   refine ⟨rs.length, rfl, by omega, fun r hr' => ?_⟩
   have x2 := Ext.upd (o := .rng 0 (rs.length : Int)) hr'
   have er := upd_same (H := H) (a := r) (o := .rng 0 (rs.length : Int))
   generalize upd H r (.rng 0 (rs.length : Int)) = H2 at x2 er ⊢
   refine ⟨r, rfl, (List.range rs.length).map fun j : Nat => V.int (j : Int), .inr ⟨_, er, rfl⟩, by rw [List.length_map, List.length_range]; omega, fun v => match v with | .int i => wOf rs i.toNat | _ => [], ⟨1, fun x hx => ?_⟩, x2 _ _ tb, ?_, ?_⟩
   ·obtain ⟨j, _, rfl⟩ := List.mem_map.mp hx
    rfl
   ·intro H3 x x3 hx
    obtain ⟨j, hj, rfl⟩ := List.mem_map.mp hx
    have lj : j < rs.length := by simpa using hj
    obtain ⟨r', hr1⟩ : ∃ r', rs[j]? = some r' := ⟨_, List.getElem?_eq_getElem lj⟩
    obtain ⟨q, hq⟩ : ∃ q, qs[j]? = some q := ⟨_, List.getElem?_eq_getElem (by rw [hR2.1]; exact lj)⟩
    have eq := x3 _ _ (x2 _ _ (hR2.2 j q r' hq hr1))
    dsimp only
    rw [x3 _ _ (x2 _ _ hl), seqOf_l, optK_some, atI_nat (j := j) (v := V.ref q) (by rw [List.getElem?_map, hq]; rfl), optK_some]
    refine ⟨.refl _, q, rfl, ?_⟩
    rw [Int.toNat_natCast, eq]
    unfold wOf
    rw [List.getD_eq_getElem?_getD, hr1]
    rfl
   ·intro D H3 q x3 hD hq eD
    obtain ⟨pm, pw⟩ := hq
    rw [List.length_map, List.length_range] at pm
    have lt : ∀ i ∈ q, i < rs.length := fun i hi => by simpa using pm.mem_iff.mp hi
    have em : q.map (atV ((List.range rs.length).map fun j : Nat => V.int (j : Int))) = natsV q := by
     unfold natsV
     rw [List.map_map]
     exact List.map_congr_left fun i hi => atV_range (lt i hi)
    rw [em] at eD
    refine h D H3 q (x2.trans x3) (x2.none hD) ⟨pm, pw.imp_of_mem fun {a b} ha hb hs => ?_⟩ eD
    unfold SR.sl ltT at hs
    rw [atV_range (lt a ha), atV_range (lt b hb)] at hs
    simp only [Int.toNat_natCast] at hs
    rcases hs with g | ⟨g, _⟩
    ·exact lex_as _ _ g
    ·exact g
end
end LW
namespace LW
open PySem L2 MA PyProof.Rows MC
section
variable {P : Program} {w : World} {K : PySem.W.Frag} {mg : Str → Option Value} {base : Heap}
theorem sc_lead : FnScope ["first", "second", "third", "x", "y", "u", "v", "a", "b", "slope", "rise"] ["first", "second", "third"] (defScope s_lead) := ⟨rfl, rfl, rfl, by decide +kernel, rfl, by decide +kernel, by decide +kernel⟩
set_option maxHeartbeats 0 in
theorem ok_lead {C : Cz} {f : Addr} {fd : FuncData} (F : Fun K "lead" "lead" s_lead f fd) (T : Txt K mg C)  : FnOk P w K mg base (CXE P w) 1 f fd ["first", "second", "third"] sp_lead := by
 refine okN F (k := 0) sc_lead (fun vs H Q E h => ?_) (fun cdv A outer s H vs Q E hr h => ?_)
 ·obtain ⟨p, q, r, A, B, D, rfl, _⟩ := h
  rfl
 ·obtain ⟨p, q, r, A, B, D, rfl, h⟩ := h
  refine' ⟨_, ?main, ?rest⟩
  case main =>
   refine' pss_cons ?c1 ?c2
   case' c1 => refine' ps_asg (pvF 0) ?c3
   case' c3 => refine' pg_F (n := 2) rfl ?c4
   case' c4 => refine' pgs_consF (pg_name (i := 3) sc_lead.nd rfl (Or.inl rfl)) ?c5
   case' c5 => exact (pgs_consF (pg_name (i := 4) sc_lead.nd rfl (Or.inl rfl)) pgs_nilF)
   case' c2 => refine' pss_cons ?c6 ?c7
   case' c6 => refine' ps_asg (pvF 1) ?c8
   case' c8 => refine' pg_F (n := 2) rfl ?c9
   case' c9 => refine' pgs_consF (pg_name (i := 5) sc_lead.nd rfl (Or.inl rfl)) ?c10
   case' c10 => exact (pgs_consF (pg_name (i := 6) sc_lead.nd rfl (Or.inl rfl)) pgs_nilF)
   case' c7 => refine' pss_cons ?c11 ?c12
   case' c11 => refine' ps_asg (pvF 2) ?c13
   case' c13 => refine' pg_F (n := 2) rfl ?c14
   case' c14 => refine' pgs_consF (pg_name (i := 7) sc_lead.nd rfl (Or.inl rfl)) ?c15
   case' c15 => exact (pgs_consF (pg_name (i := 8) sc_lead.nd rfl (Or.inl rfl)) pgs_nilF)
   case' c12 => refine' pss_cons ?c16 ?c17
   case' c16 => refine' ps_set (i := 9) ?c18 ?c19 ?c20 ?c21
   case c18 => exact sc_lead.nd
   case c19 => exact rfl
   case c20 => exact (Or.inl rfl)
   case' c21 => refine' pe_op (OpR.f op_mulA) pe_int ?c22
   case' c22 => refine' pe_op (OpR.f0 op_add) ?c23 ?c24
   case' c23 => exact (pe_op (OpR.f op_mulA) (pe_op (OpR.f0 op_sub) (pvF 4) (pvF 6)) (pe_op (OpR.f0 op_sub) (pvF 3) (pvF 7)))
   case' c24 => exact (pe_op (OpR.f op_mulA) (pe_op (OpR.f0 op_sub) (pvF 5) (pvF 3)) (pe_op (OpR.f0 op_sub) (pvF 4) (pvF 8)))
   case' c17 => refine' pss_cons ?c25 ?c26
   case' c25 => refine' ps_set (i := 10) ?c27 ?c28 ?c29 ?c30
   case c27 => exact sc_lead.nd
   case c28 => exact rfl
   case c29 => exact (Or.inl rfl)
   case' c30 => refine' pe_op ?c31 ?c32 ?c33
   case c31 => exact (OpR.f0 op_sub)
   case' c32 => refine' pe_op ?c34 ?c35 ?c36
   case c34 => exact (OpR.f0 op_sub)
   case' c35 => refine' pe_op ?c37 ?c38 ?c39
   case c37 => exact (OpR.f0 op_add)
   case' c38 => refine' pe_op (OpR.f0 op_add) ?c40 (pe_op (OpR.f op_mulA) (pvF 7) (pvF 7))
   case' c40 => refine' pe_op (OpR.f0 op_add) ?c41 ?c42
   case' c41 => exact (pe_op (OpR.f op_mulA) (pe_op (OpR.f0 op_add) (pvF 3) (pvF 5)) (pe_op (OpR.f0 op_sub) (pvF 3) (pvF 7)))
   case' c42 => exact (pe_op (OpR.f op_mulA) (pe_op (OpR.f0 op_add) (pvF 4) (pvF 6)) (pe_op (OpR.f0 op_sub) (pvF 4) (pvF 8)))
   case c39 => exact (pe_op (OpR.f op_mulA) (pvF 8) (pvF 8))
   case c36 => exact (pe_op (OpR.f op_mulA) (pvF 3) (pvF 3))
   case c33 => exact (pe_op (OpR.f op_mulA) (pvF 4) (pvF 4))
   case' c26 => refine' pss_one ?c43
   case' c43 => refine' ps_ret ?c44
   case' c44 => refine' pe_tup ?c45
   case' c45 => refine' pa_cons (pvF 9) ?c46
   case' c46 => exact (pa_cons (pvF 10) pa_nil)
  case rest =>
   obtain ⟨hp, hq, hr', ⟨a1, a2⟩, ⟨b1, b2⟩, ⟨c1, c2⟩, h⟩ := h
   simp only [L2.start, List.map_cons, List.map_nil, List.length_cons, List.length_nil, Nat.reduceAdd, Nat.reduceSub, List.replicate_succ, List.replicate_zero, List.cons_append, List.nil_append, List.append_nil]
   o_head ⟨extR, gSeqF, gCons, gNil, hp, hq, hr'⟩
   exact ⟨(by first | exact CMulA.left (by decide) (by decide) | exact CMulA.right (by decide) (by decide) | (apply CMulA.of; (repeat (first | assumption | apply Bd.mul | apply Bd.sub | apply Bd.add | apply Bd.neg | apply Bd.sq)); all_goals decide)), (by first | exact CMulA.left (by decide) (by decide) | exact CMulA.right (by decide) (by decide) | (apply CMulA.of; (repeat (first | assumption | apply Bd.mul | apply Bd.sub | apply Bd.add | apply Bd.neg | apply Bd.sq)); all_goals decide)), .left (by decide) (by decide), (by first | exact CMulA.left (by decide) (by decide) | exact CMulA.right (by decide) (by decide) | (apply CMulA.of; (repeat (first | assumption | apply Bd.mul | apply Bd.sub | apply Bd.add | apply Bd.neg | apply Bd.sq)); all_goals decide)), (by first | exact CMulA.left (by decide) (by decide) | exact CMulA.right (by decide) (by decide) | (apply CMulA.of; (repeat (first | assumption | apply Bd.mul | apply Bd.sub | apply Bd.add | apply Bd.neg | apply Bd.sq)); all_goals decide)), (by first | exact CMulA.left (by decide) (by decide) | exact CMulA.right (by decide) (by decide) | (apply CMulA.of; (repeat (first | assumption | apply Bd.mul | apply Bd.sub | apply Bd.add | apply Bd.neg | apply Bd.sq)); all_goals decide)), (by first | exact CMulA.left (by decide) (by decide) | exact CMulA.right (by decide) (by decide) | (apply CMulA.of; (repeat (first | assumption | apply Bd.mul | apply Bd.sub | apply Bd.add | apply Bd.neg | apply Bd.sq)); all_goals decide)), (by first | exact CMulA.left (by decide) (by decide) | exact CMulA.right (by decide) (by decide) | (apply CMulA.of; (repeat (first | assumption | apply Bd.mul | apply Bd.sub | apply Bd.add | apply Bd.neg | apply Bd.sq)); all_goals decide)), (by first | exact CMulA.left (by decide) (by decide) | exact CMulA.right (by decide) (by decide) | (apply CMulA.of; (repeat (first | assumption | apply Bd.mul | apply Bd.sub | apply Bd.add | apply Bd.neg | apply Bd.sq)); all_goals decide)), by decide, h⟩
end
end LW
namespace LW
open PySem L2 MA PyProof.Rows MC
section
variable {P : Program} {w : World} {K : PySem.W.Frag} {mg : Str → Option Value} {base : Heap}
theorem sc_point_along : FnScope ["first", "second", "place", "x", "y", "u", "v", "top", "bottom"] ["first", "second", "place"] (defScope s_point_along) := ⟨rfl, rfl, rfl, by decide +kernel, rfl, by decide +kernel, by decide +kernel⟩
set_option maxHeartbeats 0 in
theorem ok_point_along {C : Cz} {f : Addr} {fd : FuncData} (F : Fun K "point_along" "point_along" s_point_along f fd) (T : Txt K mg C) (F_point_of : FnB P w K mg base (CXE P w) 2 "point_of" ["x", "y", "w"] sp_point_of) : FnOk P w K mg base (CXE P w) 3 f fd ["first", "second", "place"] sp_palong := by
 refine okN F (k := 2) sc_point_along (fun vs H Q E h => ?_) (fun cdv A outer s H vs Q E hr h => ?_)
 ·obtain ⟨p, q, w', A, B, o, rfl, _⟩ := h
  rfl
 ·obtain ⟨p, q, w', A, B, o, rfl, h⟩ := h
  refine' ⟨_, ?main, ?rest⟩
  case main =>
   refine' pss_cons ?c1 ?c2
   case' c1 => refine' ps_if ?c3 ?c4 pss_nil
   case' c3 => exact (pt_cmp (pc_isN (pvF 2)))
   case' c4 => refine' pss_one ?c5
   case' c5 => exact (ps_ret pe_non)
   case' c2 => refine' pss_cons ?c6 ?c7
   case' c6 => refine' ps_asg (pvF 0) ?c8
   case' c8 => refine' pg_F (n := 2) rfl ?c9
   case' c9 => refine' pgs_consF (pg_name (i := 3) sc_point_along.nd rfl (Or.inl rfl)) ?c10
   case' c10 => exact (pgs_consF (pg_name (i := 4) sc_point_along.nd rfl (Or.inl rfl)) pgs_nilF)
   case' c7 => refine' pss_cons ?c11 ?c12
   case' c11 => refine' ps_asg (pvF 1) ?c13
   case' c13 => refine' pg_F (n := 2) rfl ?c14
   case' c14 => refine' pgs_consF (pg_name (i := 5) sc_point_along.nd rfl (Or.inl rfl)) ?c15
   case' c15 => exact (pgs_consF (pg_name (i := 6) sc_point_along.nd rfl (Or.inl rfl)) pgs_nilF)
   case' c12 => refine' pss_cons ?c16 ?c17
   case' c16 => refine' ps_asg (pvF 2) ?c18
   case' c18 => refine' pg_F (n := 2) rfl ?c19
   case' c19 => refine' pgs_consF (pg_name (i := 7) sc_point_along.nd rfl (Or.inl rfl)) ?c20
   case' c20 => exact (pgs_consF (pg_name (i := 8) sc_point_along.nd rfl (Or.inl rfl)) pgs_nilF)
   case' c17 => refine' pss_one ?c21
   case' c21 => refine' ps_ret ?c22
   case' c22 => refine' pe_fn ?c23 ?c24 ?c25 ?c26 ?c27
   case c23 => exact F_point_of
   case c24 => exact (hr.mono (by decide))
   case c25 => exact rfl
   case c26 => exact passE0
   case' c27 => refine' pa_cons ?c28 ?c29
   case' c28 => refine' pe_op (OpR.f0 op_add) ?c30 ?c31
   case' c30 => exact (pe_op (OpR.f op_mulA) (pe_op (OpR.f0 op_add) (pvF 3) (pvF 5)) (pvF 8))
   case' c31 => refine' pe_op (OpR.f op_mulA) ?c32 (pvF 7)
   case' c32 => exact (pe_op (OpR.f op_mulA) pe_int (pe_op (OpR.f0 op_sub) (pvF 4) (pvF 6)))
   case' c29 => refine' pa_cons ?c33 ?c34
   case' c33 => refine' pe_op (OpR.f0 op_add) ?c35 ?c36
   case' c35 => exact (pe_op (OpR.f op_mulA) (pe_op (OpR.f0 op_add) (pvF 4) (pvF 6)) (pvF 8))
   case' c36 => refine' pe_op (OpR.f op_mulA) ?c37 (pvF 7)
   case' c37 => exact (pe_op (OpR.f op_mulA) pe_int (pe_op (OpR.f0 op_sub) (pvF 5) (pvF 3)))
   case' c34 => refine' pa_cons ?c38 pa_nil
   case' c38 => exact (pe_op (OpR.f op_mulA) pe_int (pvF 8))
  case rest =>
   obtain ⟨hp, hq, ⟨a1, a2⟩, ⟨b1, b2⟩, hw, h⟩ := h
   simp only [L2.start, List.map_cons, List.map_nil, List.length_cons, List.length_nil, Nat.reduceAdd, Nat.reduceSub, List.replicate_succ, List.replicate_zero, List.cons_append, List.nil_append, List.append_nil]
   cases o with
   | none =>
    obtain rfl : w' = .non := hw
    o_head ⟨extR⟩
    exact h .non H (.refl _) rfl
   | some z =>
    obtain ⟨t, rfl, et, z0, bz1, bz2⟩ := hw
    o_head ⟨extR, gSeqF, gCons, gNil, hp, hq, et, sp_point_of⟩
    have two : Bd 2 2 := Bd.of_le 2 (by decide) (by decide) (by decide)
    refine ⟨(by first | exact CMulA.left (by decide) (by decide) | exact CMulA.right (by decide) (by decide) | (apply CMulA.of; (repeat (first | assumption | apply Bd.mul | apply Bd.sub | apply Bd.add | apply Bd.neg | apply Bd.sq)); all_goals decide)), .left (by decide) (by decide), .of (two.mul (a2.sub b2)) bz1 (by decide) (by decide), (by first | exact CMulA.left (by decide) (by decide) | exact CMulA.right (by decide) (by decide) | (apply CMulA.of; (repeat (first | assumption | apply Bd.mul | apply Bd.sub | apply Bd.add | apply Bd.neg | apply Bd.sq)); all_goals decide)), .left (by decide) (by decide), .of (two.mul (b1.sub a1)) bz1 (by decide) (by decide), .left (by decide) (by decide), by omega, (two.mul bz2).mono (by decide), fun t' a b c ht' hP => ?_⟩
    exact h (.ref t') _ (.upd ht') ⟨t', a, b, c, rfl, upd_same, hP⟩
end
end LW
namespace LW
open PySem L2 MA PyProof.Rows MC
section
variable {P : Program} {w : World} {K : PySem.W.Frag} {mg : Str → Option Value} {base : Heap}
theorem sc_reach_within : FnScope ["spots", "one", "other", "first", "second", "start", "end", "third", "slope", "rise", "place"] ["spots", "one", "other"] (defScope s_reach_within) := ⟨rfl, rfl, rfl, by decide +kernel, rfl, by decide +kernel, by decide +kernel⟩
set_option maxHeartbeats 0 in
theorem ok_reach_within {C : Cz} {f : Addr} {fd : FuncData} (F : Fun K "reach_within" "reach_within" s_reach_within f fd) (T : Txt K mg C) (F_point_along : FnB P w K mg base (CXE P w) 3 "point_along" ["first", "second", "place"] sp_palong) (F_less : FnB P w K mg base (CXE P w) 1 "less" ["one", "other"] sp_less) (F_fraction_of : FnB P w K mg base (CXE P w) 2 "fraction_of" ["top", "bottom"] sp_fraction_of) (F_lead : FnB P w K mg base (CXE P w) 1 "lead" ["first", "second", "third"] sp_lead) : FnOk P w K mg base (CXE P w) 4 f fd ["spots", "one", "other"] (sp_rw K) := by
 refine okN F (k := 3) sc_reach_within (fun vs H Q E h => ?_) (fun cdv A outer s H vs Q E hr h => ?_)
 ·obtain ⟨l, i, j, qs, rs, A, B, rfl, _⟩ := h
  rfl
 ·obtain ⟨l, i, j, qs, rs, A, B, rfl, h⟩ := h
  refine' ⟨_, ?main, ?rest⟩
  case main =>
   refine' pss_cons ?c1 ?c2
   case' c1 => exact (ps_set (i := 3) sc_reach_within.nd rfl (Or.inl rfl) (pe_ix ix_F (pvF 0) (pvF 1) (fun _ _ => rfl)))
   case' c2 => refine' pss_cons ?c3 ?c4
   case' c3 => exact (ps_set (i := 4) sc_reach_within.nd rfl (Or.inl rfl) (pe_ix ix_F (pvF 0) (pvF 2) (fun _ _ => rfl)))
   case' c4 => refine' pss_cons ?c5 ?c6
   case' c5 => exact (ps_set (i := 5) sc_reach_within.nd rfl (Or.inl rfl) pe_non)
   case' c6 => refine' pss_cons ?c7 ?c8
   case' c7 => exact (ps_set (i := 6) sc_reach_within.nd rfl (Or.inl rfl) pe_non)
   case' c8 => refine' pss_cut ?c9 ?c10
   case' c9 => refine' ps_for ?c11 ?c12 ?c13 ?c14 ?c15
   case c11 => exact PassesOwn.never
   case c12 => exact rfl
   case c13 => exact (pi_listK (K := K) rfl (pvF 0))
   case c14 => exact (pg_name (i := 7) sc_reach_within.nd rfl (Or.inl rfl))
   case' c15 => refine' pss_cons ?c16 ?c17
   case' c16 => refine' ps_asg ?c18 ?c19
   case' c18 => refine' pe_fn F_lead (hr.mono (by decide)) rfl passE0 ?c20
   case' c20 => refine' pa_cons (pvF 3) ?c21
   case' c21 => refine' pa_cons (pvF 4) ?c22
   case' c22 => exact (pa_cons (pvF 7) pa_nil)
   case' c19 => refine' pg_F (n := 2) rfl ?c23
   case' c23 => refine' pgs_consF (pg_name (i := 8) sc_reach_within.nd rfl (Or.inl rfl)) ?c24
   case' c24 => exact (pgs_consF (pg_name (i := 9) sc_reach_within.nd rfl (Or.inl rfl)) pgs_nilF)
   case' c17 => refine' pss_cut ?c25 ?c26
   case' c25 => refine' ps_if ?c27 ?c28 ?c29
   case' c27 => exact (pt_cmpF op_eqI (pvF 8) pe_int (nomark _))
   case' c28 => refine' pss_cons ?c30 (pss_one ps_continue)
   case' c30 => refine' ps_if ?c31 ?c32 pss_nil
   case' c31 => exact (pt_cmpF (OpR.f0 op_lt) (pvF 9) pe_int (nomark _))
   case' c32 => refine' pss_one ?c33
   case' c33 => exact (ps_ret pe_non)
   case c29 => exact pss_nil
   case' c26 => refine' pss_cut ?c34 ?c35
   case' c34 => refine' ps_set (i := 10) sc_reach_within.nd rfl (Or.inl rfl) ?c36
   case' c36 => refine' pe_fn F_fraction_of (hr.mono (by decide)) rfl passE0 ?c37
   case' c37 => refine' pa_cons (pe_un (UnR.f un_neg) (pvF 9)) ?c38
   case' c38 => exact (pa_cons (pvF 8) pa_nil)
   case' c35 => refine' pss_cut ?c39 ?c40
   case' c39 => refine' ps_if ?c41 ?c42 ?c43
   case' c41 => refine' PW.pt ?c44
   case' c44 => refine' pw_and ?c45 ?c46
   case' c45 => exact (pt_cmpF (OpR.f0 op_gt) (pvF 8) pe_int (nomark _))
   case' c46 => refine' pw_and1 ?c47
   case' c47 => refine' PW.pt ?c48
   case' c48 => refine' pw_or ?c49 ?c50
   case' c49 => exact (pt_cmp (pc_isN (pvF 5)))
   case' c50 => refine' pw_or1 ?c51
   case' c51 => refine' pt_valF ?c52
   case' c52 => refine' pe_fn F_less (hr.mono (by decide)) rfl passE0 ?c53
   case' c53 => refine' pa_cons (pvF 5) ?c54
   case' c54 => exact (pa_cons (pvF 10) pa_nil)
   case' c42 => exact (pss_one (ps_set (i := 5) sc_reach_within.nd rfl (Or.inl rfl) (pvF 10)))
   case c43 => exact pss_nil
   case' c40 => refine' pss_one ?c55
   case' c55 => refine' ps_if ?c56 ?c57 ?c58
   case' c56 => refine' PW.pt ?c59
   case' c59 => refine' pw_and ?c60 ?c61
   case' c60 => exact (pt_cmpF (OpR.f0 op_lt) (pvF 8) pe_int (nomark _))
   case' c61 => refine' pw_and1 ?c62
   case' c62 => refine' PW.pt ?c63
   case' c63 => refine' pw_or ?c64 ?c65
   case' c64 => exact (pt_cmp (pc_isN (pvF 6)))
   case' c65 => refine' pw_or1 ?c66
   case' c66 => refine' pt_valF ?c67
   case' c67 => refine' pe_fn F_less (hr.mono (by decide)) rfl passE0 ?c68
   case' c68 => refine' pa_cons (pvF 10) ?c69
   case' c69 => exact (pa_cons (pvF 6) pa_nil)
   case' c57 => exact (pss_one (ps_set (i := 6) sc_reach_within.nd rfl (Or.inl rfl) (pvF 10)))
   case c58 => exact pss_nil
   case' c10 => refine' pss_cut ?c70 ?c71
   case' c70 => refine' ps_if ?c72 ?c73 ?c74
   case' c72 => refine' PW.pt ?c75
   case' c75 => refine' pw_and ?c76 ?c77
   case' c76 => exact (pt_cmp (pc_notN (pvF 5)))
   case' c77 => refine' pw_and ?c78 ?c79
   case' c78 => exact (pt_cmp (pc_notN (pvF 6)))
   case' c79 => refine' pw_and1 ?c80
   case' c80 => refine' pt_not ?c81
   case' c81 => refine' pt_valF ?c82
   case' c82 => refine' pe_fn F_less (hr.mono (by decide)) rfl passE0 ?c83
   case' c83 => refine' pa_cons (pvF 5) ?c84
   case' c84 => exact (pa_cons (pvF 6) pa_nil)
   case' c73 => refine' pss_one ?c85
   case' c85 => exact (ps_ret pe_non)
   case c74 => exact pss_nil
   case' c71 => refine' pss_one ?c86
   case' c86 => refine' ps_ret ?c87
   case' c87 => refine' pe_tup ?c88
   case' c88 => refine' pa_cons ?c89 ?c90
   case' c89 => refine' pe_fn F_point_along (hr.mono (by decide)) rfl passE0 ?c91
   case' c91 => refine' pa_cons (pvF 3) ?c92
   case' c92 => refine' pa_cons (pvF 4) ?c93
   case' c93 => exact (pa_cons (pvF 5) pa_nil)
   case' c90 => refine' pa_cons ?c94 pa_nil
   case' c94 => refine' pe_fn F_point_along (hr.mono (by decide)) rfl passE0 ?c95
   case' c95 => refine' pa_cons (pvF 3) ?c96
   case' c96 => refine' pa_cons (pvF 4) ?c97
   case' c97 => exact (pa_cons (pvF 6) pa_nil)
  case rest =>
   obtain ⟨ok, hi, hj, hU, hT⟩ := h
   obtain ⟨qa, hqa, ea, aa, ba1, ba2⟩ := ok.get hi
   obtain ⟨qb, hqb, eb, ab', bb1, bb2⟩ := ok.get hj
   have n12 := ok.n12
   have lq : (qs.map V.ref).length = rs.length := by rw [List.length_map, ok.at_.1]
   simp only [L2.start, List.map_cons, List.map_nil, List.length_cons, List.length_nil, Nat.reduceAdd, Nat.reduceSub, List.replicate_succ, List.replicate_zero, List.cons_append, List.nil_append, List.append_nil]
   o_head ⟨extR, ok.sp, aa, ab'⟩
   refine ⟨fun σ H' => ∃ (va vb : V) (s e : Option (Int × Int)) (o7 o8 o9 o10 : Option V), σ = [some (.ref l), some (.int (i : Int)), some (.int (j : Int)), some (.ref qa), some (.ref qb), some va, some vb, o7, o8, o9, o10] ∧ FrV H' va s ∧ FrV H' vb e ∧ LoOk A B rs s ∧ HiOk A B rs e ∧ (∀ D ∈ rs, slp A B D = 0 → 0 ≤ ris A B D) ∧ Ext H H', ?_, ?_⟩
   ·refine tfor_list (K := K) (a := l) (xs := qs.map V.ref) (fun R h => by o_head ⟨extR⟩; exact h) (fun k σ H' => ∃ (va vb : V) (s e : Option (Int × Int)) (o7 o8 o9 o10 : Option V), σ = [some (.ref l), some (.int (i : Int)), some (.int (j : Int)), some (.ref qa), some (.ref qb), some va, some vb, o7, o8, o9, o10] ∧ FrV H' va s ∧ FrV H' vb e ∧ LoOk A B (rs.take k) s ∧ HiOk A B (rs.take k) e ∧ (∀ D ∈ rs.take k, slp A B D = 0 → 0 ≤ ris A B D) ∧ Ext H H') ⟨.non, .non, none, none, _, _, _, _, rfl, rfl, rfl, fun D hD => absurd hD (by simp), fun D hD => absurd hD (by simp), fun D hD => absurd hD (by simp), .refl _⟩ ?_ ?_ ?_
    ·rintro k σ H1 _ ⟨va, vb, s, e, o7, o8, o9, o10, rfl, _, _, _, _, _, x1⟩
     exact SqL.of (x1 _ _ ok.sp)
    ·rintro k w1 σ H1 hk ⟨va, vb, s, e, o7, o8, o9, o10, rfl, fa, fb, lo, hi', fl, x1⟩
     obtain ⟨q, hq, rfl⟩ := refs_get hk
     obtain ⟨D, hD1, hD2⟩ := ok.at_.at hq
     have mD := List.mem_of_getElem? hD1
     have bD := ok.sz D mD
     have tk : rs.take (k + 1) = rs.take k ++ [D] := by rw [List.take_succ, hD1]; rfl
     rw [tk]
     have bs := slp_bd (A := A) (B := B) (D := D) ⟨ba1, ba2⟩ ⟨bb1, bb2⟩ bD
     o_head ⟨extR⟩
     refine ⟨qa, qb, q, A, B, D, rfl, x1 _ _ ea, x1 _ _ eb, x1 _ _ hD2, ⟨ba1, ba2⟩, ⟨bb1, bb2⟩, bD, fun t ht => ?_⟩
     have x2 := x1.then (o := .tup [.int (slp A B D), .int (ris A B D)]) ht
     have fa2 := fa.ext (Ext.upd (o := .tup [.int (slp A B D), .int (ris A B D)]) ht)
     have fb2 := fb.ext (Ext.upd (o := .tup [.int (slp A B D), .int (ris A B D)]) ht)
     have et := upd_same (H := H1) (a := t) (o := .tup [.int (slp A B D), .int (ris A B D)])
     generalize upd H1 t (.tup [.int (slp A B D), .int (ris A B D)]) = H2 at x2 fa2 fb2 et ⊢
     o_head ⟨extR, gSeqF, gCons, gNil, et⟩
     refine ⟨fun σ H' => σ = [some (.ref l), some (.int (i : Int)), some (.int (j : Int)), some (.ref qa), some (.ref qb), some va, some vb, some (.ref q), some (.int (slp A B D)), some (.int (ris A B D)), o10] ∧ H' = H2 ∧ slp A B D ≠ 0, ?_, ?_⟩
     ·o_head ⟨extR⟩
      by_cases c : slp A B D = 0
      ·rw [if_pos c]
       by_cases c2 : ris A B D < 0
       ·rw [if_pos c2]
        exact hU (.inl ⟨D, mD, c, c2⟩) H2 x2
       ·rw [if_neg c2]
        exact ⟨⟨_, rfl⟩, s, fa2, e, fb2, lo.keep (by omega), hi'.keep (by omega), fun y hy q => (mem_snoc hy).elim (fun g => fl y g q) fun e => by rw [e]; omega, x2⟩
      ·rw [if_neg c]
       exact c
     ·rintro σ H3 ⟨rfl, rfl, c⟩
      refine ⟨fun σ H' => ∃ (t2 : Addr) (a b : Int), σ = [some (.ref l), some (.int (i : Int)), some (.int (j : Int)), some (.ref qa), some (.ref qb), some va, some vb, some (.ref q), some (.int (slp A B D)), some (.int (ris A B D)), some (.ref t2)] ∧ H' t2 = some (.tup [.int a, .int b]) ∧ IsFr (-(ris A B D)) (slp A B D) a b ∧ Ext H3 H', ?_, ?_⟩
      ·o_head ⟨extR, sp_fraction_of⟩
       refine ⟨c, bs.1.mono (by decide), fun t2 a b ht2 hf => ⟨a, b, rfl, hf, .upd ht2⟩⟩
      ·rintro σ H4 ⟨t2, a, b, rfl, et2, hf, x4⟩
       have fa4 := fa2.ext x4
       have fb4 := fb2.ext x4
       have x24 := x2.trans x4
       have ba : Bd 1700 a := Nat.lt_of_le_of_lt hf.la (by rw [Int.natAbs_neg]; exact bs.2)
       have bb : Bd 1700 b := Nat.lt_of_le_of_lt hf.lc bs.1
       have fz : FrV H4 (.ref t2) (some (a, b)) := ⟨t2, rfl, et2, hf.pos, ba, bb⟩
       have fl' : ∀ y ∈ rs.take k ++ [D], slp A B y = 0 → 0 ≤ ris A B y := fun y hy q => (mem_snoc hy).elim (fun g => fl y g q) fun e => absurd (e ▸ q) c
       refine ⟨fun σ H' => ∃ (va' : V) (s' : Option (Int × Int)), σ = [some (.ref l), some (.int (i : Int)), some (.int (j : Int)), some (.ref qa), some (.ref qb), some va', some vb, some (.ref q), some (.int (slp A B D)), some (.int (ris A B D)), some (.ref t2)] ∧ FrV H' va' s' ∧ LoOk A B (rs.take k ++ [D]) s' ∧ H' = H4, ?_, ?_⟩
       ·o_head ⟨extR⟩
        by_cases c1 : 0 < slp A B D
        ·rw [if_pos c1]
         cases s with
         | none =>
          obtain rfl : va = .non := fa4
          o_head ⟨extR⟩
          exact ⟨some (a, b), fz, lo.new c1 hf (fun z e => by cases e)⟩
         | some z =>
          obtain ⟨t3, rfl, et3, z0, bz1, bz2⟩ := fa4
          o_head ⟨extR⟩
          refine ⟨t3, t2, z.1, z.2, a, b, rfl, et3, et2, ⟨bz1.mono (by decide), bz2.mono (by decide), ba.mono (by decide), bb.mono (by decide)⟩, ?_⟩
          by_cases c2 : z.1 * b < a * z.2
          ·o_head ⟨extR, c2⟩
           exact ⟨some (a, b), fz, lo.new c1 hf (fun z' e => by cases e; exact c2)⟩
          ·o_head ⟨extR, c2⟩
           exact ⟨some z, ⟨t3, rfl, et3, z0, bz1, bz2⟩, lo.old c1 hf c2⟩
        ·rw [if_neg c1]
         exact ⟨s, fa4, lo.keep c1⟩
       ·rintro σ H5 ⟨va', s', rfl, fs', los', rfl⟩
        o_head ⟨extR⟩
        by_cases c1 : slp A B D < 0
        ·rw [if_pos c1]
         cases e with
         | none =>
          obtain rfl : vb = .non := fb4
          rw [if_pos rfl]
          exact ⟨⟨_, rfl⟩, s', fs', some (a, b), fz, los', hi'.new c1 hf (fun z e => by cases e), fl', x24⟩
         | some z =>
          obtain ⟨t3, rfl, et3, z0, bz1, bz2⟩ := fb4
          rw [if_neg (by intro z; cases z)]
          refine ⟨t2, t3, a, b, z.1, z.2, rfl, et2, et3, ⟨ba.mono (by decide), bb.mono (by decide), bz1.mono (by decide), bz2.mono (by decide)⟩, ?_⟩
          by_cases c2 : a * z.2 < z.1 * b
          ·o_head ⟨extR, c2⟩
           exact ⟨⟨_, rfl⟩, s', fs', some (a, b), fz, los', hi'.new c1 hf (fun z' e => by cases e; exact c2), fl', x24⟩
          ·o_head ⟨extR, c2⟩
           exact ⟨⟨_, rfl⟩, s', fs', some z, ⟨t3, rfl, et3, z0, bz1, bz2⟩, los', hi'.old c1 hf c2, fl', x24⟩
        ·rw [if_neg c1]
         exact ⟨⟨_, rfl⟩, s', fs', e, fb4, los', hi'.keep c1, fl', x24⟩
    ·rintro σ H1 ⟨va, vb, s, e, o7, o8, o9, o10, rfl, fa, fb, lo, hi', fl, x1⟩
     rw [lq, List.take_length] at lo hi' fl
     exact ⟨va, vb, s, e, o7, o8, o9, o10, rfl, fa, fb, lo, hi', fl, x1⟩
   ·rintro σ H1 ⟨va, vb, s, e, o7, o8, o9, o10, rfl, fa, fb, lo, hi', fl, x1⟩
    refine ⟨fun σ H' => σ = [some (.ref l), some (.int (i : Int)), some (.int (j : Int)), some (.ref qa), some (.ref qb), some va, some vb, o7, o8, o9, o10] ∧ H' = H1 ∧ ∀ s' e', s = some s' → e = some e' → s'.1 * e'.2 < e'.1 * s'.2, ?_, ?_⟩
    ·o_head ⟨extR⟩
     cases s with
     | none =>
      obtain rfl : va = .non := fa
      o_head ⟨extR⟩
      intro s' e' z
      cases z
     | some z =>
      obtain ⟨t3, rfl, et3, z0, bz1, bz2⟩ := fa
      cases e with
      | none =>
       obtain rfl : vb = .non := fb
       o_head ⟨extR⟩
       intro s' e' _ q
       cases q
      | some y =>
       obtain ⟨t4, rfl, et4, y0, by1, by2⟩ := fb
       o_head ⟨extR⟩
       refine ⟨t3, t4, z.1, z.2, y.1, y.2, rfl, et3, et4, ⟨bz1.mono (by decide), bz2.mono (by decide), by1.mono (by decide), by2.mono (by decide)⟩, ?_⟩
       by_cases c : z.1 * y.2 < y.1 * z.2
       ·o_head ⟨extR, c⟩
        intro s' e' q1 q2
        cases q1
        cases q2
        exact c
       ·o_head ⟨extR, c⟩
        exact hU (.inr ⟨z, y, lo, hi', by omega⟩) H1 x1
    ·rintro σ H2 ⟨rfl, rfl, hlt⟩
     o_head ⟨extR, sp_palong⟩
     refine ⟨A, x1 _ _ ea, B, x1 _ _ eb, ba1, ba2, bb1, bb2, s, fa, fun v H3 x3 pv => ?_⟩
     have x13 := x1.trans x3
     refine ⟨A, x13 _ _ ea, B, x13 _ _ eb, ba1, ba2, bb1, bb2, e, fb.ext x3, fun w' H4 x4 pw => ⟨by decide, fun t ht => ?_⟩⟩
     exact hT t v w' s e _ ((x13.trans x4).then ht) upd_same ((pv.ext x4).ext (.upd ht)) (pw.ext (.upd ht)) ⟨lo, hi', fl, hlt⟩
end
end LW
namespace LW
open PySem L2 MA PyProof.Rows MC
section
variable {P : Program} {w : World} {K : PySem.W.Frag} {mg : Str → Option Value} {base : Heap}
theorem sc_reaches : FnScope ["spots", "told", "one", "other", "ends"] ["spots"] (defScope s_reaches) := ⟨rfl, rfl, rfl, by decide +kernel, rfl, by decide +kernel, by decide +kernel⟩
set_option maxHeartbeats 0 in
theorem ok_reaches {C : Cz} {f : Addr} {fd : FuncData} (F : Fun K "reaches" "reaches" s_reaches f fd) (T : Txt K mg C) (F_reach_within : FnB P w K mg base (CXE P w) 4 "reach_within" ["spots", "one", "other"] (sp_rw K)) : FnOk P w K mg base (CXE P w) 5 f fd ["spots"] (sp_reaches K) := by
 refine okN F (k := 4) sc_reaches (fun vs H Q E h => ?_) (fun cdv A outer s H vs Q E hr h => ?_)
 ·obtain ⟨l, qs, rs, rfl, _⟩ := h
  rfl
 ·obtain ⟨l, qs, rs, rfl, h⟩ := h
  refine' ⟨_, ?main, ?rest⟩
  case main =>
   refine' pss_cons ?c1 ?c2
   case' c1 => refine' ps_set (i := 1) sc_reaches.nd rfl (Or.inl rfl) ?c3
   case' c3 => exact (pe_lst pa_nil)
   case' c2 => refine' pss_cut ?c4 ?c5
   case' c4 => refine' ps_for ?c6 ?c7 ?c8 ?c9 ?c10
   case c6 => exact PassesOwn.never
   case c7 => exact rfl
   case' c8 => refine' pi_range1 rfl T.b_range ?c11
   case' c11 => refine' pa_cons ?c12 pa_nil
   case' c12 => refine' pe_callB call_lenF (by rfl) T.b_len PySem.boot_len ?c13
   case' c13 => exact (pa_cons (pvF 0) pa_nil)
   case c9 => exact (pg_name (i := 2) sc_reaches.nd rfl (Or.inl rfl))
   case' c10 => refine' pss_one ?c14
   case' c14 => refine' ps_for ?c15 ?c16 ?c17 ?c18 ?c19
   case c15 => exact PassesOwn.never
   case c16 => exact rfl
   case' c17 => refine' pi_range2 rfl T.b_range ?c20
   case' c20 => refine' pa_cons ?c21 ?c22
   case' c21 => exact (pe_op (OpR.f0 op_add) (pvF 2) pe_int)
   case' c22 => refine' pa_cons ?c23 pa_nil
   case' c23 => refine' pe_callB call_lenF (by rfl) T.b_len PySem.boot_len ?c24
   case' c24 => exact (pa_cons (pvF 0) pa_nil)
   case c18 => exact (pg_name (i := 3) sc_reaches.nd rfl (Or.inl rfl))
   case' c19 => refine' pss_cut ?c25 ?c26
   case' c25 => refine' ps_set (i := 4) sc_reaches.nd rfl (Or.inl rfl) ?c27
   case' c27 => refine' pe_fn F_reach_within (hr.mono (by decide)) rfl passE0 ?c28
   case' c28 => refine' pa_cons (pvF 0) ?c29
   case' c29 => refine' pa_cons (pvF 2) ?c30
   case' c30 => exact (pa_cons (pvF 3) pa_nil)
   case' c26 => refine' pss_one ?c31
   case' c31 => refine' ps_if ?c32 ?c33 ?c34
   case' c32 => exact (pt_cmp (pc_notN (pvF 4)))
   case' c33 => refine' pss_one ?c35
   case' c35 => refine' ps_expr ?c36
   case' c36 => refine' pe_app (pvF 1) ?c37
   case' c37 => refine' pa_cons ?c38 pa_nil
   case' c38 => refine' pe_tup ?c39
   case' c39 => refine' pa_cons (pvF 2) ?c40
   case' c40 => refine' pa_cons (pvF 3) ?c41
   case' c41 => exact (pa_cons (pvF 4) pa_nil)
   case c34 => exact pss_nil
   case' c5 => exact (pss_one (ps_ret (pvF 1)))
  case rest =>
   obtain ⟨ok, h⟩ := h
   have lq : (qs.map V.ref).length = rs.length := by rw [List.length_map, ok.at_.1]
   have n12 := ok.n12
   simp only [L2.start, List.map_cons, List.map_nil, List.length_cons, List.length_nil, Nat.reduceAdd, Nat.reduceSub, List.replicate_succ, List.replicate_zero, List.cons_append, List.nil_append, List.append_nil]
   o_head ⟨extR⟩
   refine ⟨by decide, fun D hD => ?_⟩
   refine ⟨fun σ H' => ∃ (ts : List Addr) (ps : List (Nat × Nat)) (o2 o3 o4 : Option V), σ = [some (.ref l), some (.ref D), o2, o3, o4] ∧ Ext H H' ∧ H' D = some (.lst (ts.map V.ref)) ∧ RcAt H' ts ps ∧ TsOk rs rs.length 0 ps, ?_, ?_⟩
   ·refine tfor_range rs.length (fun R hR => by o_head ⟨extR, upd_f hD ok.sp, lq⟩; exact hR) (by omega) (fun i σ H' => ∃ (ts : List Addr) (ps : List (Nat × Nat)) (o2 o3 o4 : Option V), σ = [some (.ref l), some (.ref D), o2, o3, o4] ∧ Ext H H' ∧ H' D = some (.lst (ts.map V.ref)) ∧ RcAt H' ts ps ∧ TsOk rs i 0 ps) ⟨[], [], _, _, _, rfl, .upd hD, upd_same, ⟨rfl, fun k t z a => by simp at a⟩, ⟨fun z hz => absurd hz (by simp), by simp, fun a b A B ab q => by omega, by simp, fun z hz => absurd hz (by simp)⟩⟩ ?_ ?_
    ·rintro i σ H1 hi ⟨ts, ps, o2, o3, o4, rfl, x1, e1, r1, t1⟩
     obtain ⟨A, hA⟩ : ∃ r, rs[i]? = some r := ⟨_, List.getElem?_eq_getElem hi⟩
     have t1' := t1.start (j := i + 1) (by omega)
     have nD : ∀ {z : Addr} {o : HO}, H z = some o → z ≠ D := fun {z o} hz w => by rw [w, hD] at hz; cases hz
     o_head ⟨extR, Int.zero_add⟩
     refine tfor_range2 ((i : Int) + 1) (rs.length - (i + 1)) (fun R hR => by
      o_head ⟨extR, x1 _ _ ok.sp, lq⟩
      have : ((i : Int) + 1 + ((rs.length - (i + 1) : Nat) : Int)) = (rs.length : Int) := by omega
      rw [this] at hR
      exact hR) (by omega) (by omega) (fun k σ H' => ∃ (ts : List Addr) (ps : List (Nat × Nat)) (o3 o4 : Option V), σ = [some (.ref l), some (.ref D), some (.int (i : Int)), o3, o4] ∧ Ext H H' ∧ H' D = some (.lst (ts.map V.ref)) ∧ RcAt H' ts ps ∧ TsOk rs i (i + 1 + k) ps) ⟨ts, ps, _, _, rfl, x1, e1, r1, t1'⟩ ?_ ?_
     ·rintro k σ H2 hk ⟨ts, ps, o3, o4, rfl, x2, e2, r2, t2⟩
      obtain ⟨j, hj⟩ : ∃ j, j = i + 1 + k := ⟨_, rfl⟩
      have ej : (i : Int) + 1 + (k : Int) = (j : Int) := by omega
      have jl : j < rs.length := by omega
      obtain ⟨B, hB⟩ : ∃ r, rs[j]? = some r := ⟨_, List.getElem?_eq_getElem jl⟩
      rw [← hj] at t2
      rw [ej]
      have sk := t2.skip hA hB
      have pt := t2.put (by omega) jl hA hB
      have ek : i + 1 + (k + 1) = j + 1 := by omega
      rw [ek]
      o_head ⟨extR⟩
      refine ⟨fun σ H' => ∃ w : V, σ = [some (.ref l), some (.ref D), some (.int (i : Int)), some (.int (j : Int)), some w] ∧ Ext H2 H' ∧ RwV A B rs w, ?_, ?_⟩
      ·o_head ⟨extR, sp_rw⟩
       exact ⟨i, rfl, j, rfl, qs, rs, ok.ext x2, A, hA, B, hB, fun u H3 x3 => ⟨x3, .inl ⟨rfl, u.not⟩⟩, fun t v w s e H3 x3 _ _ _ td => ⟨x3, .inr ⟨t, rfl, td.tt⟩⟩⟩
      ·rintro σ H3 ⟨w, rfl, x3, hw⟩
       rcases hw with ⟨rfl, u⟩ | ⟨t, rfl, td⟩
       ·o_head ⟨extR⟩
        exact ⟨⟨_, rfl⟩, x2.trans x3, ts, x3 _ _ e2, ps, r2.ext x3, sk u⟩
       ·o_head ⟨extR, x3 _ _ e2⟩
        refine ⟨by decide, fun p hp => ?_⟩
        have e4 := upd_f (o := .tup [.int (i : Int), .int (j : Int), .ref t]) hp (x3 _ _ e2)
        have r4 := (r2.ext x3).ext (Ext.upd (o := .tup [.int (i : Int), .int (j : Int), .ref t]) hp)
        have x4 := (x2.trans x3).then (o := .tup [.int (i : Int), .int (j : Int), .ref t]) hp
        have et := upd_same (H := H3) (a := p) (o := .tup [.int (i : Int), .int (j : Int), .ref t])
        generalize upd H3 p _ = H4 at e4 r4 x4 et ⊢
        rw [e4, lstOf_l, optK_some]
        have ln := t2.len
        have lr := r2.1
        refine ⟨by rw [List.length_map]; omega, ⟨_, rfl⟩, x4.set hD, ts ++ [p], by rw [List.map_append]; rfl, ps ++ [(i, j)], ?_, pt td⟩
        exact (r4.snoc et).setL e4
     ·rintro σ H2 ⟨ts, ps, o3, o4, rfl, x2, e2, r2, t2⟩
      have : i + 1 + (rs.length - (i + 1)) = rs.length := by omega
      rw [this] at t2
      exact ⟨⟨_, _, _, rfl⟩, x2, ts, e2, ps, r2, t2.next n12⟩
    ·rintro σ H1 ⟨ts, ps, o2, o3, o4, rfl, x1, e1, r1, t1⟩
     exact ⟨ts, ps, _, _, _, rfl, x1, e1, r1, t1⟩
   ·rintro σ H1 ⟨ts, ps, o2, o3, o4, rfl, x1, e1, r1, t1⟩
    o_head ⟨extR⟩
    exact h D ts ps H1 x1 hD e1 r1 t1
end
end LW
namespace LW
open PySem L2 MA PyProof.Rows MC
section
variable {P : Program} {w : World} {K : PySem.W.Frag} {mg : Str → Option Value} {base : Heap}
theorem sc_ties : FnScope ["spots"] ["spots"] (defScope s_ties) := ⟨rfl, rfl, rfl, by decide +kernel, rfl, by decide +kernel, by decide +kernel⟩
set_option maxHeartbeats 0 in
theorem ok_ties {C : Cz} {f : Addr} {fd : FuncData} (F : Fun K "ties" "ties" s_ties f fd) (T : Txt K mg C) (F_reaches : FnB P w K mg base (CXE P w) 5 "reaches" ["spots"] (sp_reaches K)) (F_check_spots : FnB P w K mg base (CXE P w) 2 "check_spots" ["spots"] (sp_cs K)) : FnOk P w K mg base (CXE P w) 6 f fd ["spots"] (sp_ties K) := by
 refine okN F (k := 5) sc_ties (fun vs H Q E h => ?_) (fun cdv A outer s H vs Q E hr h => ?_)
 ·obtain ⟨l, qs, rs, rfl, _⟩ := h
  rfl
 ·obtain ⟨l, qs, rs, rfl, h⟩ := h
  refine' ⟨_, ?main, ?rest⟩
  case main =>
   refine' pss_cut ?c1 ?c2
   case' c1 => refine' ps_expr ?c3
   case' c3 => refine' pe_fn F_check_spots (hr.mono (by decide)) rfl passE0 ?c4
   case' c4 => exact (pa_cons (pvF 0) pa_nil)
   case' c2 => refine' pss_one ?c5
   case' c5 => refine' ps_ret ?c6
   case' c6 => refine' pe_lc (CScope.of_ok (dsc := defScope s_ties) (N0 := ["spots"]) (N := ["one", "other", "ends"]) (k := 3) (js := []) rfl rfl (by decide +kernel)) rfl ?c7 ?c8 ?c9 ?c10
   case' c7 => refine' pi_listK (K := K) rfl ?c11
   case' c11 => refine' PE.up ?c12
   case' c12 => refine' pe_fn F_reaches (hr.mono (by decide)) rfl passE0 ?c13
   case' c13 => exact (pa_cons (pvF 0) pa_nil)
   case' c8 => intro _ _ _ _ _ _; refine' pg_F (n := 3) rfl ?c14
   case' c14 => refine' pgs_consF (pg_name (i := 0) (by show List.Nodup (["one", "other", "ends"] : List Str); decide +kernel) rfl (Or.inl rfl)) ?c15
   case' c15 => refine' pgs_consF (pg_name (i := 1) (by show List.Nodup (["one", "other", "ends"] : List Str); decide +kernel) rfl (Or.inl rfl)) ?c16
   case' c16 => exact (pgs_consF (pg_name (i := 2) (by show List.Nodup (["one", "other", "ends"] : List Str); decide +kernel) rfl (Or.inl rfl)) pgs_nilF)
   case' c9 => intro _ _ _ _ _ _; exact pifs_nil
   case' c10 => intro _ _ _ _ _ _; refine' pe_tup ?c17
   case' c17 => refine' pa_cons (pvF 0) ?c18
   case' c18 => exact (pa_cons (pvF 1) pa_nil)
  case rest =>
   obtain ⟨ok, h⟩ := h
   have n12 := ok.n12
   simp only [L2.start, List.map_cons, List.map_nil, List.length_cons, List.length_nil, Nat.reduceAdd, Nat.reduceSub, List.replicate_succ, List.replicate_zero, List.cons_append, List.nil_append, List.append_nil]
   refine ⟨fun σ H' => σ = [some (.ref l)] ∧ Ext H H', ?_, ?_⟩
   ·o_head ⟨extR, sp_cs⟩
    exact ⟨⟨qs, rs, ok⟩, fun H1 x1 => x1⟩
   ·rintro σ H1 ⟨rfl, x1⟩
    o_head ⟨extR⟩
    refine tlc_list_up (fun w H' => ∃ (T : Addr) (ts : List Addr) (ps : List (Nat × Nat)), w = .ref T ∧ Ext H1 H' ∧ H' T = some (.lst (ts.map V.ref)) ∧ RcAt H' ts ps ∧ TsOk rs rs.length 0 ps) ?_ ?_
    ·o_head ⟨extR, sp_reaches⟩
     exact ⟨qs, rs, ok.ext x1, fun T ts ps H2 x2 _ eT rc tk => ⟨x2, ts, eT, ps, rc, tk⟩⟩
    ·rintro w1 H2 ⟨T, ts, ps, rfl, x2, eT, rc, tk⟩
     have ln := tk.len
     have lr := rc.1
     refine ⟨T, ts.map V.ref, rfl, SqL.of eT, by rw [List.length_map]; omega, fun D i ys H' => ∃ us : List Addr, ys = us.map V.ref ∧ R2At H' us ((ps.take i).map cI) ∧ H' D = some (.lst ys) ∧ Ext H2 H', ?_, ?_, ?_, ?_⟩
     ·intro D hD
      exact ⟨[], rfl, ⟨rfl, fun i q z a => by simp at a⟩, upd_same, .upd hD⟩
     ·rintro D i ys H3 _ ⟨us, rfl, r3, e3, x3⟩
      refine ⟨e3, ?_, SqL.of (x3 _ _ eT)⟩
      rw [List.length_map, r3.1, List.length_map, List.length_take]
      omega
     ·rintro D i w1 ys H3 hD hi ⟨us, rfl, r3, e3, x3⟩
      obtain ⟨t, ht, rfl⟩ := refs_get hi
      obtain ⟨z, hz⟩ : ∃ z, ps[i]? = some z := ⟨_, List.getElem?_eq_getElem (by rw [← lr]; exact (List.getElem?_eq_some_iff.mp ht).1)⟩
      obtain ⟨w, hw⟩ := rc.2 i t z ht hz
      o_head ⟨extR, gSeqF, gCons, gNil, x3 _ _ hw⟩
      refine ⟨by decide, fun p hp => ⟨upd_f hp e3, us ++ [p], by rw [List.map_append]; rfl, ?_, (x3.then hp).set hD⟩⟩
      rw [List.take_succ, hz, List.map_append]
      exact R2At.setT ((r3.ext (Ext.upd hp)).snocT (z := cI z) upd_same) (upd_f hp e3)
     ·rintro D ys H3 hD ⟨us, rfl, r3, e3, x3⟩
      rw [List.length_map, lr, List.take_length] at r3
      have x12 := x1.trans x2
      exact h D us ps H3 (x12.trans x3) (x12.none hD) e3 r3 tk
end
end LW
namespace LW
open PySem L2 MA PyProof.Rows MC
section
variable {P : Program} {w : World} {K : PySem.W.Frag} {mg : Str → Option Value} {base : Heap}
theorem sc_spot_turn : FnScope ["spots", "one", "other", "third"] ["spots", "one", "other", "third"] (defScope s_spot_turn) := ⟨rfl, rfl, rfl, by decide +kernel, rfl, by decide +kernel, by decide +kernel⟩
set_option maxHeartbeats 0 in
theorem ok_spot_turn {C : Cz} {f : Addr} {fd : FuncData} (F : Fun K "spot_turn" "spot_turn" s_spot_turn f fd) (T : Txt K mg C) (F_spot_point : FnB P w K mg base (CXE P w) 1 "spot_point" ["spot"] sp_spot_point) (F_turn : FnB P w K mg base (CXE P w) 2 "turn" ["one", "other", "third"] sp_turn) : FnOk P w K mg base (CXE P w) 3 f fd ["spots", "one", "other", "third"] sp_sturn := by
 refine okN F (k := 2) sc_spot_turn (fun vs H Q E h => ?_) (fun cdv A outer s H vs Q E hr h => ?_)
 ·obtain ⟨l, i, j, k, qs, rs, rfl, _⟩ := h
  rfl
 ·obtain ⟨l, i, j, k, qs, rs, rfl, h⟩ := h
  refine' ⟨_, ?main, ?rest⟩
  case main =>
   refine' pss_one ?c1
   case' c1 => refine' ps_ret ?c2
   case' c2 => refine' pe_fn ?c3 ?c4 ?c5 ?c6 ?c7
   case c3 => exact F_turn
   case c4 => exact (hr.mono (by decide))
   case c5 => exact rfl
   case c6 => exact passE0
   case' c7 => refine' pa_cons ?c8 ?c9
   case' c8 => refine' pe_fn F_spot_point (hr.mono (by decide)) rfl passE0 ?c10
   case' c10 => exact (pa_cons (pe_ix ix_F (pvF 0) (pvF 1) (fun _ _ => rfl)) pa_nil)
   case' c9 => refine' pa_cons ?c11 ?c12
   case' c11 => refine' pe_fn F_spot_point (hr.mono (by decide)) rfl passE0 ?c13
   case' c13 => exact (pa_cons (pe_ix ix_F (pvF 0) (pvF 2) (fun _ _ => rfl)) pa_nil)
   case' c12 => refine' pa_cons ?c14 pa_nil
   case' c14 => refine' pe_fn F_spot_point (hr.mono (by decide)) rfl passE0 ?c15
   case' c15 => exact (pa_cons (pe_ix ix_F (pvF 0) (pvF 3) (fun _ _ => rfl)) pa_nil)
  case rest =>
   obtain ⟨ok, il, jl, kl, h⟩ := h
   obtain ⟨q1, _, e1, a1, b1, b1'⟩ := ok.get (sAt_get il)
   obtain ⟨q2, _, e2, a2, b2, b2'⟩ := ok.get (sAt_get jl)
   obtain ⟨q3, _, e3, a3, b3, b3'⟩ := ok.get (sAt_get kl)
   simp only [L2.start, List.map_cons, List.map_nil, List.length_cons, List.length_nil, Nat.reduceAdd, Nat.reduceSub, List.replicate_succ, List.replicate_zero, List.cons_append, List.nil_append, List.append_nil]
   o_head ⟨extR, ok.sp, sp_spot_point, sp_turn⟩
   rw [a1]
   refine ⟨q1, rfl, _, _, e1, fun t1 n1 => ?_⟩
   rw [upd_f n1 ok.sp, seqOf_l]
   dsimp only [optK]
   rw [a2]
   refine ⟨q2, rfl, _, _, upd_f n1 e2, fun t2 n2 => ?_⟩
   rw [upd_f n2 (upd_f n1 ok.sp), seqOf_l]
   dsimp only [optK]
   rw [a3]
   refine ⟨q3, rfl, _, _, upd_f n2 (upd_f n1 e3), fun t3 n3 => ?_⟩
   rw [upd_f n3 (upd_f n2 upd_same), upd_f n3 upd_same]
   dsimp only [optK, tup3]
   have z1 : Bd 2000 1 := by unfold Bd; decide
   refine ⟨⟨b1.mono (by decide), b1'.mono (by decide), z1⟩, ⟨b2.mono (by decide), b2'.mono (by decide), z1⟩, ⟨b3.mono (by decide), b3'.mono (by decide), z1⟩, ?_⟩
   have e : det3 (sAt rs i).1 (sAt rs i).2 1 (sAt rs j).1 (sAt rs j).2 1 (sAt rs k).1 (sAt rs k).2 1 = trn (sAt rs i) (sAt rs j) (sAt rs k) := by unfold det3 trn; grind
   rw [e]
   exact h _ (((Ext.upd n1).then n2).then n3)
end
end LW
namespace LW
open PySem L2 MA PyProof.Rows MC
section
variable {P : Program} {w : World} {K : PySem.W.Frag} {mg : Str → Option Value} {base : Heap}
theorem sc_outer_way : FnScope ["spots", "order", "way", "number"] ["spots", "order"] (defScope s_outer_way) := ⟨rfl, rfl, rfl, by decide +kernel, rfl, by decide +kernel, by decide +kernel⟩
set_option maxHeartbeats 0 in
theorem ok_outer_way {C : Cz} {f : Addr} {fd : FuncData} (F : Fun K "outer_way" "outer_way" s_outer_way f fd) (T : Txt K mg C) (F_spot_turn : FnB P w K mg base (CXE P w) 3 "spot_turn" ["spots", "one", "other", "third"] sp_sturn) : FnOk P w K mg base (CXE P w) 4 f fd ["spots", "order"] (sp_outer K) := by
 refine okN F (k := 3) sc_outer_way (fun vs H Q E h => ?_) (fun cdv A outer s H vs Q E hr h => ?_)
 ·obtain ⟨l, o, qs, rs, js, rfl, _⟩ := h
  rfl
 ·obtain ⟨l, o, qs, rs, js, rfl, h⟩ := h
  refine' ⟨_, ?main, ?rest⟩
  case main =>
   refine' pss_cut ?c1 ?c2
   case' c1 => refine' ps_set (i := 2) sc_outer_way.nd rfl (Or.inl rfl) ?c3
   case' c3 => exact (pe_lst pa_nil)
   case' c2 => refine' pss_cons ?c4 ?c5
   case' c4 => refine' ps_for ?c6 ?c7 ?c8 ?c9 ?c10
   case c6 => exact PassesOwn.never
   case c7 => exact rfl
   case c8 => exact (pi_listK (K := K) rfl (pvF 1))
   case c9 => exact (pg_name (i := 3) sc_outer_way.nd rfl (Or.inl rfl))
   case' c10 => refine' pss_cons ?c11 ?c12
   case' c11 => refine' ps_while ?c13 ?c14 ?c15
   case c13 => exact PassesOwn.never
   case' c14 => refine' PW.pt ?c16
   case' c16 => refine' pw_and ?c17 ?c18
   case' c17 => refine' pt_cmpF (OpR.f0 op_gt) ?c19 pe_int (nomark _)
   case' c19 => refine' pe_callB call_lenF (by rfl) T.b_len PySem.boot_len ?c20
   case' c20 => exact (pa_cons (pvF 2) pa_nil)
   case' c18 => refine' pw_and1 ?c21
   case' c21 => refine' pt_cmpF (OpR.f0 op_lt) ?c22 pe_int (nomark _)
   case' c22 => refine' pe_fn ?c23 ?c24 ?c25 ?c26 ?c27
   case c23 => exact F_spot_turn
   case c24 => exact (hr.mono (by decide))
   case c25 => exact rfl
   case c26 => exact passE0
   case' c27 => refine' pa_cons ?c28 ?c29
   case c28 => exact (pvF 0)
   case' c29 => refine' pa_cons ?c30 ?c31
   case' c30 => refine' pe_ix ix_F (pvF 2) ?c32 (fun _ _ => rfl)
   case' c32 => exact (pe_un (UnR.f un_neg) pe_int)
   case' c31 => refine' pa_cons ?c33 ?c34
   case' c33 => refine' pe_ix ix_F (pvF 2) ?c35 (fun _ _ => rfl)
   case' c35 => exact (pe_un (UnR.f un_neg) pe_int)
   case' c34 => exact (pa_cons (pvF 3) pa_nil)
   case' c15 => refine' pss_one ?c36
   case' c36 => exact (ps_expr (pe_pop0 (pvF 2)))
   case' c12 => refine' pss_one ?c37
   case' c37 => refine' ps_expr ?c38
   case' c38 => refine' pe_app (pvF 2) ?c39
   case' c39 => exact (pa_cons (pvF 3) pa_nil)
   case' c5 => exact (pss_one (ps_ret (pvF 2)))
  case rest =>
   obtain ⟨ok, ho, hj, l12, h⟩ := h
   simp only [L2.start, List.map_cons, List.map_nil, List.length_cons, List.length_nil, Nat.reduceAdd, Nat.reduceSub, List.replicate_succ, List.replicate_zero, List.cons_append, List.nil_append, List.append_nil]
   refine ⟨fun σ H' => ∃ D : Addr, σ = [some (.ref l), some (.ref o), some (.ref D), none] ∧ Ext H H' ∧ H D = none ∧ H' D = some (.lst (JsV [])), ?_, ?_⟩
   ·o_head ⟨extR⟩
    exact ⟨by decide, fun D hD => ⟨.upd hD, hD, rfl⟩⟩
   rintro σ H1 ⟨D, rfl, x1, nD, eD⟩
   refine tfor_list (K := K) (a := o) (xs := JsV js) (fun R hR => by o_head ⟨extR⟩; exact hR) (fun i σ H' => ∃ (w : List Nat) (o3 : Option V), σ = [some (.ref l), some (.ref o), some (.ref D), o3] ∧ Ext H H' ∧ H' D = some (.lst (JsV w)) ∧ (w.map (sAt rs)).reverse = wayS ((js.take i).map (sAt rs)) ∧ (∀ j ∈ w, j ∈ js) ∧ w.length ≤ i) ⟨[], _, rfl, x1, eD, rfl, fun j hj => (by cases hj), Nat.le_refl _⟩ ?_ ?_ ?_
   ·rintro i σ H2 _ ⟨w, o3, rfl, x2, e2, hw, sub, lw⟩
    exact SqL.of (x2 _ _ ho)
   rotate_left
   ·rintro σ H2 ⟨w, o3, rfl, x2, e2, hw, sub, lw⟩
    rw [JsV_len] at lw
    rw [JsV_len, List.take_length] at hw
    o_head ⟨extR⟩
    exact h D w H2 x2 nD e2 hw sub lw
   rintro i v σ H2 hi ⟨w, o3, rfl, x2, e2, hw, sub, lw⟩
   obtain ⟨k, hk, rfl⟩ := JsV_get hi
   have kl := hj k (List.mem_of_getElem? hk)
   o_head ⟨extR⟩
   refine ⟨fun m σ H' => ∃ w' : List Nat, σ = [some (.ref l), some (.ref o), some (.ref D), some (.int (k : Int))] ∧ Ext H H' ∧ H' D = some (.lst (JsV w')) ∧ popW (sAt rs k) (w'.map (sAt rs)).reverse = popW (sAt rs k) (w.map (sAt rs)).reverse ∧ (∀ j ∈ w', j ∈ w) ∧ w'.length ≤ w.length ∧ m = w'.length, ⟨_, w, rfl, x2, e2, rfl, fun j hj => hj, Nat.le_refl _, rfl⟩, ?_⟩
   rintro m σ H3 ⟨w', rfl, x3, e3, hp, sub', lw', rfl⟩
   have fin : popW (sAt rs k) (w'.map (sAt rs)).reverse = (w'.map (sAt rs)).reverse → (((w' ++ [k]).map (sAt rs)).reverse = wayS ((js.take (i + 1)).map (sAt rs)) ∧ (∀ j ∈ w' ++ [k], j ∈ js) ∧ (w' ++ [k]).length ≤ i + 1) := by
    intro g
    refine ⟨?_, ?_, by simp; omega⟩
    ·rw [List.take_add_one, hk, Option.toList_some, List.map_append, List.map_append, List.reverse_append, List.map_cons, List.map_nil, List.reverse_singleton, wayS, List.foldl_append, ← wayS, ← hw]
     show sAt rs k :: (w'.map (sAt rs)).reverse = sAt rs k :: popW (sAt rs k) (w.map (sAt rs)).reverse
     rw [← hp, g]
    ·intro j hj'
     rcases List.mem_append.mp hj' with q | q
     ·exact sub _ (sub' _ q)
     ·rw [List.mem_singleton.mp q]
      exact List.mem_of_getElem? hk
   have eJk : JsV w' ++ [V.int (k : Int)] = JsV (w' ++ [k]) := by simp [JsV]
   by_cases c1 : 1 < w'.length
   ·obtain ⟨u, b, t, rfl⟩ := two_last c1
    have er : ((u ++ [b, t]).map (sAt rs)).reverse = sAt rs t :: sAt rs b :: (u.map (sAt rs)).reverse := by simp
    have eJ : JsV (u ++ [b, t]) = JsV u ++ [V.int (b : Int), V.int (t : Int)] := by simp [JsV]
    o_head ⟨extR, e3, sp_sturn, eJ, atI_l1, atI_l2⟩
    rw [if_pos (by simp [JsV]; omega)]
    refine ⟨b, rfl, t, rfl, k, rfl, qs, rs, ok.ext x3, hj _ (sub _ (sub' _ (by simp))), hj _ (sub _ (sub' _ (by simp))), kl, fun H4 x4 => ?_⟩
    have e4 := x4 _ _ e3
    have x5 := x3.trans x4
    by_cases c2 : trn (sAt rs b) (sAt rs t) (sAt rs k) < 0
    ·rw [if_pos (sgn_lt.mpr c2), e4]
     refine ⟨_, fun σ' H' h => h, ?_⟩
     o_head ⟨extR, eJ⟩
     have eL : (JsV u ++ [V.int (b : Int), V.int (t : Int)]).getLast? = some (V.int (t : Int)) := by simp
     have eD' : (JsV u ++ [V.int (b : Int), V.int (t : Int)]).dropLast = JsV (u ++ [b]) := by simp [JsV, List.dropLast_append_of_ne_nil]
     show optK ((JsV u ++ [V.int (b : Int), V.int (t : Int)]).getLast?) _
     rw [eL, eD']
     refine ⟨_, ?_, x5.set nD, _, rfl, ?_, fun j hj' => sub' j ?_, ?_, rfl⟩
     ·simp
     ·rw [← hp, er, popW, if_pos c2]
      simp
     ·rcases List.mem_append.mp hj' with q | q
      ·exact List.mem_append_left _ q
      ·exact List.mem_append_right _ (by simp at q; simp [q])
     ·simp only [List.length_append, List.length_cons, List.length_nil] at lw' ⊢
      omega
    ·rw [if_neg (fun g => c2 (sgn_lt.mp g)), e4]
     o_head ⟨extR, eJ⟩
     obtain ⟨f1, f2, f3⟩ := fin (by rw [er, popW, if_neg c2])
     rw [← eJ, eJk]
     have il := (List.getElem?_eq_some_iff.mp hk).1
     exact ⟨by rw [JsV_len]; omega, ⟨_, rfl⟩, x5.set nD, _, rfl, f1, f2, f3⟩
   ·have e9 : popW (sAt rs k) (w'.map (sAt rs)).reverse = (w'.map (sAt rs)).reverse := by
     rcases w' with _ | ⟨a, _ | ⟨b, w''⟩⟩
     ·rfl
     ·rfl
     ·exact absurd (show 1 < (a :: b :: w'').length by simp) c1
    have c1' : ¬ 1 < (w'.length : Int) := by omega
    o_head ⟨extR, e3, JsV_len, c1'⟩
    obtain ⟨f1, f2, f3⟩ := fin e9
    exact ⟨by omega, ⟨_, rfl⟩, x3.set nD, _, by rw [eJk], f1, f2, f3⟩
end
end LW
namespace LW
open PySem L2 MA PyProof.Rows MC
section
variable {P : Program} {w : World} {K : PySem.W.Frag} {mg : Str → Option Value} {base : Heap}
theorem sc_rim : FnScope ["spots", "order", "there", "again"] ["spots"] (defScope s_rim) := ⟨rfl, rfl, rfl, by decide +kernel, rfl, by decide +kernel, by decide +kernel⟩
set_option maxHeartbeats 0 in
theorem ok_rim {C : Cz} {f : Addr} {fd : FuncData} (F : Fun K "rim" "rim" s_rim f fd) (T : Txt K mg C) (F_outer_way : FnB P w K mg base (CXE P w) 4 "outer_way" ["spots", "order"] (sp_outer K)) (F_by_place : FnB P w K mg base (CXE P w) 2 "by_place" ["spots"] (sp_place K C)) (F_check_spots : FnB P w K mg base (CXE P w) 2 "check_spots" ["spots"] (sp_cs K)) : FnOk P w K mg base (CXE P w) 5 f fd ["spots"] (sp_rim K C) := by
 refine okN F (k := 4) sc_rim (fun vs H Q E h => ?_) (fun cdv A outer s H vs Q E hr h => ?_)
 ·obtain ⟨l, qs, rs, rfl, _⟩ := h
  rfl
 ·obtain ⟨l, qs, rs, rfl, h⟩ := h
  refine' ⟨_, ?main, ?rest⟩
  case main =>
   refine' pss_cut ?c1 ?c2
   case' c1 => refine' ps_expr ?c3
   case' c3 => refine' pe_fn F_check_spots (hr.mono (by decide)) rfl passE0 ?c4
   case' c4 => exact (pa_cons (pvF 0) pa_nil)
   case' c2 => refine' pss_cut ?c5 ?c6
   case' c5 => refine' ps_if ?c7 ?c8 ?c9
   case' c7 => refine' pt_cmpF op_eqI ?c10 pe_int (nomark _)
   case' c10 => refine' pe_callB call_lenF (by rfl) T.b_len PySem.boot_len ?c11
   case' c11 => exact (pa_cons (pvF 0) pa_nil)
   case' c8 => refine' pss_one ?c12
   case' c12 => refine' ps_ret ?c13
   case' c13 => refine' pe_lst ?c14
   case' c14 => exact (pa_cons pe_int pa_nil)
   case c9 => exact pss_nil
   case' c6 => refine' pss_cut ?c15 ?c16
   case' c15 => refine' ps_set (i := 1) sc_rim.nd rfl (Or.inl rfl) ?c17
   case' c17 => refine' pe_fn F_by_place (hr.mono (by decide)) rfl passE0 ?c18
   case' c18 => exact (pa_cons (pvF 0) pa_nil)
   case' c16 => refine' pss_cut ?c19 ?c20
   case' c19 => refine' ps_set (i := 2) sc_rim.nd rfl (Or.inl rfl) ?c21
   case' c21 => refine' pe_fn F_outer_way (hr.mono (by decide)) rfl passE0 ?c22
   case' c22 => refine' pa_cons (pvF 0) ?c23
   case' c23 => exact (pa_cons (pvF 1) pa_nil)
   case' c20 => refine' pss_cut ?c24 ?c25
   case' c24 => refine' ps_set (i := 3) sc_rim.nd rfl (Or.inl rfl) ?c26
   case' c26 => refine' pe_fn F_outer_way (hr.mono (by decide)) rfl passE0 ?c27
   case' c27 => refine' pa_cons (pvF 0) ?c28
   case' c28 => refine' pa_cons ?c29 pa_nil
   case' c29 => refine' pe_rev (pvF 1) ?c30
   case' c30 => refine' po_some ?c31
   case' c31 => exact (pe_un (UnR.f un_neg) pe_int)
   case' c25 => refine' pss_one ?c32
   case' c32 => refine' ps_ret ?c33
   case' c33 => refine' pe_op ?c34 ?c35 ?c36
   case c34 => exact op_catF
   case' c35 => refine' pe_slice sl_F (pvF 2) po_none ?c37
   case' c37 => refine' po_some ?c38
   case' c38 => exact (pe_un (UnR.f un_neg) pe_int)
   case' c36 => refine' pe_slice sl_F (pvF 3) po_none ?c39
   case' c39 => refine' po_some ?c40
   case' c40 => exact (pe_un (UnR.f un_neg) pe_int)
  case rest =>
   obtain ⟨ok, tb, h⟩ := h
   have lq : (qs.map V.ref).length = rs.length := by rw [List.length_map, ok.at_.1]
   have n12 := ok.n12
   have n0 := ok.n0
   simp only [L2.start, List.map_cons, List.map_nil, List.length_cons, List.length_nil, Nat.reduceAdd, Nat.reduceSub, List.replicate_succ, List.replicate_zero, List.cons_append, List.nil_append, List.append_nil]
   refine ⟨fun σ H' => σ = [some (.ref l), none, none, none] ∧ Ext H H', ?_, ?_⟩
   ·o_head ⟨extR, sp_cs⟩
    exact ⟨⟨qs, rs, ok⟩, fun H1 x1 => x1⟩
   rintro σ H1 ⟨rfl, x1⟩
   have ok1 := ok.ext x1
   refine ⟨fun σ H' => σ = [some (.ref l), none, none, none] ∧ H' = H1 ∧ 2 ≤ rs.length, ?_, ?_⟩
   ·o_head ⟨extR, ok1.sp, lq⟩
    by_cases c : rs.length = 1
    ·rw [if_pos (by omega)]
     refine ⟨by decide, fun D hD => h D [0] _ (x1.then hD) (x1.none hD) upd_same ?_⟩
     rw [c]
     exact rim_one
    ·rw [if_neg (by omega)]
     omega
   rintro σ H2 ⟨rfl, rfl, l2⟩
   refine ⟨fun σ H' => ∃ (o : Addr) (q : List Nat), σ = [some (.ref l), some (.ref o), none, none] ∧ Ext H2 H' ∧ H' o = some (.lst (JsV q)) ∧ PlQ rs q, ?_, ?_⟩
   ·o_head ⟨extR, sp_place⟩
    exact ⟨qs, ok1.sp, rs, ok1.at_, n12, x1 _ _ tb, fun t H' q x _ pl e => ⟨x, q, by rw [← JsV_nats]; exact e, pl⟩⟩
   rintro σ H3 ⟨o, q, rfl, x3, eo, pl⟩
   have ql : ∀ j ∈ q, j < rs.length := fun j hj => List.mem_range.mp (pl.1.mem_iff.mp hj)
   have qn : q.length = rs.length := by rw [pl.1.length_eq, List.length_range]
   refine ⟨fun σ H' => ∃ (D : Addr) (w : List Nat), σ = [some (.ref l), some (.ref o), some (.ref D), none] ∧ Ext H3 H' ∧ H' D = some (.lst (JsV w)) ∧ (w.map (sAt rs)).reverse = wayS (q.map (sAt rs)) ∧ (∀ j ∈ w, j ∈ q) ∧ w.length ≤ q.length, ?_, ?_⟩
   ·o_head ⟨extR, sp_outer⟩
    exact ⟨qs, rs, ok1.ext x3, q, eo, ql, by omega, fun D w H' x _ e hw sw lw => ⟨x, w, e, hw, sw, lw⟩⟩
   rintro σ H4 ⟨D, w, rfl, x4, eD, hw, sw, lw⟩
   refine ⟨fun σ H' => ∃ (E : Addr) (w2 : List Nat), σ = [some (.ref l), some (.ref o), some (.ref D), some (.ref E)] ∧ Ext H4 H' ∧ H' E = some (.lst (JsV w2)) ∧ (w2.map (sAt rs)).reverse = wayS (q.reverse.map (sAt rs)) ∧ (∀ j ∈ w2, j ∈ q.reverse) ∧ w2.length ≤ q.length, ?_, ?_⟩
   ·o_head ⟨extR, sp_outer, tRev, x4 _ _ eo⟩
    intro t ht
    refine ⟨qs, rs, (ok1.ext (x3.trans x4)).ext (.upd ht), q.reverse, by rw [← JsV_rev], fun j hj => ql j (List.mem_reverse.mp hj), by rw [List.length_reverse]; omega, fun E w2 H' x _ e hw sw lw => ⟨(Ext.upd ht).trans x, w2, e, hw, sw, by rw [List.length_reverse] at lw; exact lw⟩⟩
   rintro σ H5 ⟨E, w2, rfl, x5, eE, hw2, sw2, lw2⟩
   have x45 := x1.trans ((x3.trans x4).trans x5)
   o_head ⟨extR, x5 _ _ eD⟩
   rw [cut_last]
   intro p hp
   have nE : E ≠ p := ne_of_none eE hp
   rw [upd_ne nE, eE, lstOf_l, optK_some, cut_last]
   intro p2 hp2
   have n2 : p ≠ p2 := fun e => by
    rw [← e, upd_same] at hp2
    cases hp2
   have hp2' : H5 p2 = none := by rw [upd_ne n2.symm] at hp2; exact hp2
   rw [upd_ne n2, upd_same, lstOf_l, optK_some]
   refine ⟨by rw [JsV_len, JsV_len, List.length_dropLast, List.length_dropLast]; omega, fun p3 hp3 => ?_⟩
   have n3a : p3 ≠ p := by
    intro e
    rw [e, upd_ne n2, upd_same] at hp3
    cases hp3
   have n3b : p3 ≠ p2 := by
    intro e
    rw [e, upd_same] at hp3
    cases hp3
   have n3 := And.intro n3a n3b
   have hp3' : H5 p3 = none := by rw [upd_ne n3.2, upd_ne n3.1] at hp3; exact hp3
   refine h p3 (w.dropLast ++ w2.dropLast) _ (((x45.then hp).then hp2).then hp3) (x45.none hp3') ?_ (rim_ok pl.1 n12 (place_lx ok.nd pl) l2 hw sw lw hw2 sw2 lw2)
   rw [upd_same]
   unfold JsV
   rw [List.map_append]
end
end LW
namespace LW
open PySem L2 MA PyProof.Rows MC
section
variable {P : Program} {w : World} {K : PySem.W.Frag} {mg : Str → Option Value} {base : Heap}
theorem sc__law_feed : FnScope ["_law_script", "_law_k", "_law_cell"] ["_law_script", "_law_k"] (defScope s__law_feed) := ⟨rfl, rfl, rfl, by decide +kernel, rfl, by decide +kernel, by decide +kernel⟩
set_option maxHeartbeats 0 in
theorem ok__law_feed {C : Cz} {f : Addr} {fd : FuncData} (F : Fun K "_law_feed" "_law_feed" s__law_feed f fd) (T : Txt K mg C)  : FnOk P w K mg base (CXE P w) 1 f fd ["_law_script", "_law_k"] (sp_feed K) := by
 refine okN F (k := 0) sc__law_feed (fun vs H Q E h => ?_) (fun cdv A outer s H vs Q E hr h => ?_)
 ·obtain ⟨a, ns, k, rfl, _⟩ := h
  rfl
 ·obtain ⟨a, ns, k, rfl, h⟩ := h
  refine' ⟨_, ?main, ?rest⟩
  case main =>
   refine' pss_cons ?c1 ?c2
   case' c1 => exact (ps_set (i := 2) sc__law_feed.nd rfl (Or.inl rfl) pe_int)
   case' c2 => refine' pss_cons ?c3 ?c4
   case' c3 => refine' ps_if ?c5 ?c6 ?c7
   case' c5 => refine' pt_cmpF (OpR.f0 op_gt) ?c8 pe_int (nomark _)
   case' c8 => refine' pe_callB (call_lenK (K := K) rfl) (by rfl) T.b_len PySem.boot_len ?c9
   case' c9 => exact (pa_cons (pvF 0) pa_nil)
   case' c6 => refine' pss_one ?c10
   case' c10 => refine' ps_set (i := 2) sc__law_feed.nd rfl (Or.inl rfl) ?c11
   case' c11 => refine' pe_ix (ix_listK (K := K) rfl) (pvF 0) ?c12 (fun _ _ => rfl)
   case' c12 => refine' pe_op (OpR.f op_mod) (pvF 1) ?c13
   case' c13 => refine' pe_callB (call_lenK (K := K) rfl) (by rfl) T.b_len PySem.boot_len ?c14
   case' c14 => exact (pa_cons (pvF 0) pa_nil)
   case c7 => exact pss_nil
   case' c4 => refine' pss_one ?c15
   case' c15 => refine' ps_ret ?c16
   case' c16 => refine' pe_lst ?c17
   case' c17 => refine' pa_cons ?c18 ?c19
   case c18 => exact (pvF 2)
   case' c19 => refine' pa_cons ?c20 ?c21
   case' c20 => exact (pe_op (OpR.f op_mod) (pvF 2) pe_int)
   case' c21 => refine' pa_cons ?c22 pa_nil
   case' c22 => refine' pe_op (OpR.f0 op_add) ?c23 pe_int
   case' c23 => exact (pe_op (OpR.f op_mulA) pe_int (pvF 1))
  case rest =>
   obtain ⟨hs, h⟩ := h
   simp only [L2.start, List.map_cons, List.map_nil, List.length_cons, List.length_nil, Nat.reduceAdd, Nat.reduceSub, List.replicate_succ, List.replicate_zero, List.cons_append, List.nil_append, List.append_nil]
   o_head ⟨extR⟩
   refine ⟨_, .inl hs, ?_⟩
   split
   ·rename_i z
    rw [List.length_map] at z
    obtain ⟨x, hx, _⟩ := atI_mod (xs := ns) (k := k) (by omega)
    refine ⟨_, .inl hs, by rw [List.length_map]; omega, a, _, _, .int x, rfl, rfl, hs, by rw [List.length_map]; exact hx, by decide, .left (by decide) (by decide), by decide, fun p hp => h p _ _ _ hp⟩
   ·exact ⟨.left (by decide) (by decide), by decide, fun p hp => h p _ _ _ hp⟩
end
end LW
namespace LW
open PySem L2 MA PyProof.Rows MC
section
variable {P : Program} {w : World} {K : PySem.W.Frag} {mg : Str → Option Value} {base : Heap}
theorem sc__law_next : FnScope ["_law_feed_here", "_law_many", "_law_digit", "_law_number"] ["_law_feed_here", "_law_many"] (defScope s__law_next) := ⟨rfl, rfl, rfl, by decide +kernel, rfl, by decide +kernel, by decide +kernel⟩
set_option maxHeartbeats 0 in
theorem ok__law_next {C : Cz} {f : Addr} {fd : FuncData} (F : Fun K "_law_next" "_law_next" s__law_next f fd) (T : Txt K mg C)  : FnOk P w K mg base (CXE P w) 1 f fd ["_law_feed_here", "_law_many"] sp_next := by
 refine okN F (k := 0) sc__law_next (fun vs H Q E h => ?_) (fun cdv A outer s H vs Q E hr h => ?_)
 ·obtain ⟨p, m, rfl, _⟩ := h
  rfl
 ·obtain ⟨p, m, rfl, h⟩ := h
  refine' ⟨_, ?main, ?rest⟩
  case main =>
   refine' pss_cons ?c1 ?c2
   case' c1 => refine' ps_if ?c3 ?c4 ?c5
   case' c3 => refine' pt_cmpF (OpR.f0 op_ge) ?c6 ?c7 (nomark _)
   case' c6 => exact (pe_ix ix_F (pvF 0) pe_int (fun _ _ => rfl))
   case' c7 => exact (pe_op (OpR.f op_powB) pe_int pe_int)
   case' c4 => refine' pss_cons ?c8 ?c9
   case' c8 => refine' ps_set (i := 2) sc__law_next.nd rfl (Or.inl rfl) ?c10
   case' c10 => refine' pe_op (OpR.f op_mod) ?c11 (pvF 1)
   case' c11 => exact (pe_ix ix_F (pvF 0) pe_int (fun _ _ => rfl))
   case' c9 => refine' pss_cons ?c12 ?c13
   case' c12 => refine' ps_asg ?c14 ?c15
   case' c14 => refine' pe_op (OpR.f op_fdivB) ?c16 (pvF 1)
   case' c16 => exact (pe_ix ix_F (pvF 0) pe_int (fun _ _ => rfl))
   case' c15 => exact (pg_sub (pvF 0) pe_int set_F)
   case' c13 => exact (pss_one (ps_ret (pvF 2)))
   case c5 => exact pss_nil
   case' c2 => refine' pss_cons ?c17 ?c18
   case' c17 => refine' ps_asg ?c19 ?c20
   case' c19 => refine' pe_op (OpR.f0 op_add) ?c21 pe_int
   case' c21 => exact (pe_ix ix_F (pvF 0) pe_int (fun _ _ => rfl))
   case' c20 => exact (pg_sub (pvF 0) pe_int set_F)
   case' c18 => refine' pss_cons ?c22 ?c23
   case' c22 => refine' ps_set (i := 3) ?c24 ?c25 ?c26 ?c27
   case c24 => exact sc__law_next.nd
   case c25 => exact rfl
   case c26 => exact (Or.inl rfl)
   case' c27 => refine' pe_op ?c28 ?c29 ?c30
   case c28 => exact (OpR.f op_mod)
   case' c29 => refine' pe_op (OpR.f op_mulA) ?c31 pe_int
   case' c31 => refine' pe_op (OpR.f0 op_add) ?c32 ?c33
   case' c32 => exact (pe_ix ix_F (pvF 0) pe_int (fun _ _ => rfl))
   case' c33 => refine' pe_op (OpR.f op_mulA) pe_int ?c34
   case' c34 => exact (pe_ix ix_F (pvF 0) pe_int (fun _ _ => rfl))
   case c30 => exact pe_int
   case' c23 => refine' pss_cons ?c35 ?c36
   case' c35 => refine' ps_set (i := 3) sc__law_next.nd rfl (Or.inl rfl) ?c37
   case' c37 => refine' pe_op (OpR.f op_mod) ?c38 pe_int
   case' c38 => refine' pe_op (OpR.f0 op_add) (pe_op (OpR.f op_mulA) (pvF 3) (pvF 3)) ?c39
   case' c39 => refine' pe_op (OpR.f op_mulA) pe_int ?c40
   case' c40 => exact (pe_ix ix_F (pvF 0) pe_int (fun _ _ => rfl))
   case' c36 => refine' pss_one ?c41
   case' c41 => refine' ps_ret ?c42
   case' c42 => refine' pe_op ?c43 ?c44 ?c45
   case c43 => exact (OpR.f op_mod)
   case' c44 => refine' pe_op (OpR.f op_fdivB) ?c46 pe_int
   case' c46 => refine' pe_op (OpR.f op_mod) ?c47 pe_int
   case' c47 => refine' pe_op (OpR.f op_mulA) (pvF 3) ?c48
   case' c48 => refine' pe_op (OpR.f0 op_add) ?c49 pe_int
   case' c49 => exact (pe_op (OpR.f op_mod) (pvF 3) pe_int)
   case c45 => exact (pvF 1)
  case rest =>
   obtain ⟨⟨a, b, c, hp⟩, hm0, hm1, h⟩ := h
   simp only [L2.start, List.map_cons, List.map_nil, List.length_cons, List.length_nil, Nat.reduceAdd, Nat.reduceSub, List.replicate_succ, List.replicate_zero, List.cons_append, List.nil_append, List.append_nil]
   o_head ⟨extR, hp⟩
   have fx : ∀ x y z : Int, FX p H (upd H p (.lst [.int x, .int y, .int z])) := fun x y z => ⟨⟨x, y, z, upd_same⟩, fun b o hb e => by rw [upd_ne hb]; exact e⟩
   have hmb : Bd 9000 m := Bd.mono (m := 140) (Bd.of_le 10000000000000000000000000000000000000000 (by omega) (by omega) (by decide)) (by decide)
   have hm2 : ¬ m = 0 := by omega
   split
   ·exact ⟨hm0, hm2, hmb, h _ _ (Int.emod_nonneg _ hm2) (Int.emod_lt_of_pos _ hm0) (fx _ _ _)⟩
   ·exact ⟨.left (by decide) (by decide), .right (by decide) (by decide), .mod (by decide) (by decide), .left (by decide) (by decide), .mod (by decide) (by decide), hm0, h _ _ (Int.emod_nonneg _ hm2) (Int.emod_lt_of_pos _ hm0) (fx _ _ _)⟩
end
end LW
namespace LW
open PySem L2 MA PyProof.Rows MC
section
variable {P : Program} {w : World} {K : PySem.W.Frag} {mg : Str → Option Value} {base : Heap}
theorem sc__law_great : FnScope ["_law_feed_here", "_law_far", "_law_number", "_law_k"] ["_law_feed_here", "_law_far"] (defScope s__law_great) := ⟨rfl, rfl, rfl, by decide +kernel, rfl, by decide +kernel, by decide +kernel⟩
set_option maxHeartbeats 0 in
theorem ok__law_great {C : Cz} {f : Addr} {fd : FuncData} (F : Fun K "_law_great" "_law_great" s__law_great f fd) (T : Txt K mg C) (F__law_next : FnB P w K mg base (CXE P w) 1 "_law_next" ["_law_feed_here", "_law_many"] sp_next) : FnOk P w K mg base (CXE P w) 2 f fd ["_law_feed_here", "_law_far"] sp_great := by
 refine okN F (k := 1) sc__law_great (fun vs H Q E h => ?_) (fun cdv A outer s H vs Q E hr h => ?_)
 ·obtain ⟨p, far, rfl, _⟩ := h
  rfl
 ·obtain ⟨p, far, rfl, h⟩ := h
  refine' ⟨_, ?main, ?rest⟩
  case main =>
   refine' pss_cons ?c1 ?c2
   case' c1 => exact (ps_set (i := 2) sc__law_great.nd rfl (Or.inl rfl) pe_int)
   case' c2 => refine' pss_cons ?c3 ?c4
   case' c3 => refine' ps_for ?c5 ?c6 ?c7 ?c8 ?c9
   case c5 => exact PassesOwn.never
   case c6 => exact rfl
   case' c7 => refine' pi_range1 rfl T.b_range ?c10
   case' c10 => exact (pa_cons pe_int pa_nil)
   case c8 => exact (pg_name (i := 3) sc__law_great.nd rfl (Or.inl rfl))
   case' c9 => refine' pss_one ?c11
   case' c11 => refine' ps_set (i := 2) ?c12 ?c13 ?c14 ?c15
   case c12 => exact sc__law_great.nd
   case c13 => exact rfl
   case c14 => exact (Or.inl rfl)
   case' c15 => refine' pe_op ?c16 ?c17 ?c18
   case c16 => exact (OpR.f0 op_add)
   case' c17 => refine' pe_op (OpR.f op_mulA) (pvF 2) ?c19
   case' c19 => exact (pe_op (OpR.f op_powB) pe_int pe_int)
   case' c18 => refine' pe_fn F__law_next (hr.mono (by decide)) rfl passE0 ?c20
   case' c20 => refine' pa_cons (pvF 0) ?c21
   case' c21 => refine' pa_cons ?c22 pa_nil
   case' c22 => exact (pe_op (OpR.f op_powB) pe_int pe_int)
   case' c4 => refine' pss_one ?c23
   case' c23 => refine' ps_ret ?c24
   case' c24 => refine' pe_op (OpR.f0 op_sub) ?c25 (pvF 1)
   case' c25 => refine' pe_op (OpR.f op_mod) (pvF 2) ?c26
   case' c26 => refine' pe_op (OpR.f0 op_add) ?c27 pe_int
   case' c27 => exact (pe_op (OpR.f op_mulA) pe_int (pvF 1))
  case rest =>
   obtain ⟨hf, h0, h⟩ := h
   simp only [L2.start, List.map_cons, List.map_nil, List.length_cons, List.length_nil, Nat.reduceAdd, Nat.reduceSub, List.replicate_succ, List.replicate_zero, List.cons_append, List.nil_append, List.append_nil]
   o_head ⟨extR, sp_next⟩
   refine ⟨6, rfl, by decide, by decide, for_range (lo := 0) (n := 6) (fun i σ H' => ∃ n o, σ = [some (.ref p), some (.int far), some (.int n), o] ∧ FX p H H') ⟨0, none, rfl, .refl hf⟩ ?_ ?_⟩
   ·rintro i σ H1 hi ⟨n, o, rfl, fx⟩
    o_head ⟨extR, sp_next⟩
    refine ⟨.right (by decide) (by decide), fx.feed, fun r H2 h1 h2 fx2 => ?_⟩
    exact fx.trans fx2
   ·rintro σ H1 ⟨n, o, rfl, fx⟩
    o_head ⟨extR⟩
    have hp : 0 < 2 * far + 1 := by omega
    have e1 := Int.emod_nonneg n (by omega : 2 * far + 1 ≠ 0)
    have e2 := Int.emod_lt_of_pos n hp
    exact ⟨.left (by decide) (by decide), hp, h _ _ (by omega) (by omega) fx⟩
end
end LW
namespace LW
open PySem L2 MA PyProof.Rows MC
section
variable {P : Program} {w : World} {K : PySem.W.Frag} {mg : Str → Option Value} {base : Heap}
theorem sc__law_spot : FnScope ["_law_feed_here", "_law_style", "_law_ring", "_law_along"] ["_law_feed_here", "_law_style"] (defScope s__law_spot) := ⟨rfl, rfl, rfl, by decide +kernel, rfl, by decide +kernel, by decide +kernel⟩
set_option maxHeartbeats 0 in
theorem ok__law_spot {C : Cz} {f : Addr} {fd : FuncData} (F : Fun K "_law_spot" "_law_spot" s__law_spot f fd) (T : Txt K mg C) (F__law_great : FnB P w K mg base (CXE P w) 2 "_law_great" ["_law_feed_here", "_law_far"] sp_great) (F__law_next : FnB P w K mg base (CXE P w) 1 "_law_next" ["_law_feed_here", "_law_many"] sp_next) : FnOk P w K mg base (CXE P w) 3 f fd ["_law_feed_here", "_law_style"] sp_spot := by
 refine okN F (k := 2) sc__law_spot (fun vs H Q E h => ?_) (fun cdv A outer s H vs Q E hr h => ?_)
 ·obtain ⟨p, st, rfl, _⟩ := h
  rfl
 ·obtain ⟨p, st, rfl, h⟩ := h
  refine' ⟨_, ?main, ?rest⟩
  case main =>
   refine' pss_cons ?c1 ?c2
   case' c1 => refine' ps_set (i := 2) ?c3 ?c4 ?c5 ?c6
   case c3 => exact sc__law_spot.nd
   case c4 => exact rfl
   case c5 => exact (Or.inl rfl)
   case' c6 => refine' pe_lst ?c7
   case' c7 => refine' pa_cons ?c8 ?c9
   case' c8 => refine' pe_tup ?c10
   case' c10 => refine' pa_cons pe_int ?c11
   case' c11 => exact (pa_cons pe_int pa_nil)
   case' c9 => refine' pa_cons ?c12 ?c13
   case' c12 => refine' pe_tup ?c14
   case' c14 => refine' pa_cons pe_int ?c15
   case' c15 => exact (pa_cons pe_int pa_nil)
   case' c13 => refine' pa_cons ?c16 ?c17
   case' c16 => refine' pe_tup ?c18
   case' c18 => refine' pa_cons pe_int ?c19
   case' c19 => exact (pa_cons pe_int pa_nil)
   case' c17 => refine' pa_cons ?c20 ?c21
   case' c20 => refine' pe_tup ?c22
   case' c22 => refine' pa_cons pe_int ?c23
   case' c23 => exact (pa_cons pe_int pa_nil)
   case' c21 => refine' pa_cons ?c24 ?c25
   case' c24 => refine' pe_tup ?c26
   case' c26 => refine' pa_cons ?c27 ?c28
   case' c27 => exact (pe_un (UnR.f un_neg) pe_int)
   case' c28 => exact (pa_cons pe_int pa_nil)
   case' c25 => refine' pa_cons ?c29 ?c30
   case' c29 => refine' pe_tup ?c31
   case' c31 => refine' pa_cons ?c32 ?c33
   case' c32 => exact (pe_un (UnR.f un_neg) pe_int)
   case' c33 => exact (pa_cons pe_int pa_nil)
   case' c30 => refine' pa_cons ?c34 ?c35
   case' c34 => refine' pe_tup ?c36
   case' c36 => refine' pa_cons ?c37 ?c38
   case' c37 => exact (pe_un (UnR.f un_neg) pe_int)
   case' c38 => exact (pa_cons pe_int pa_nil)
   case' c35 => refine' pa_cons ?c39 ?c40
   case' c39 => refine' pe_tup ?c41
   case' c41 => refine' pa_cons ?c42 ?c43
   case' c42 => exact (pe_un (UnR.f un_neg) pe_int)
   case' c43 => refine' pa_cons ?c44 pa_nil
   case' c44 => exact (pe_un (UnR.f un_neg) pe_int)
   case' c40 => refine' pa_cons ?c45 ?c46
   case' c45 => refine' pe_tup ?c47
   case' c47 => refine' pa_cons ?c48 ?c49
   case' c48 => exact (pe_un (UnR.f un_neg) pe_int)
   case' c49 => refine' pa_cons ?c50 pa_nil
   case' c50 => exact (pe_un (UnR.f un_neg) pe_int)
   case' c46 => refine' pa_cons ?c51 ?c52
   case' c51 => refine' pe_tup ?c53
   case' c53 => refine' pa_cons pe_int ?c54
   case' c54 => refine' pa_cons ?c55 pa_nil
   case' c55 => exact (pe_un (UnR.f un_neg) pe_int)
   case' c52 => refine' pa_cons ?c56 ?c57
   case' c56 => refine' pe_tup ?c58
   case' c58 => refine' pa_cons pe_int ?c59
   case' c59 => refine' pa_cons ?c60 pa_nil
   case' c60 => exact (pe_un (UnR.f un_neg) pe_int)
   case' c57 => refine' pa_cons ?c61 pa_nil
   case' c61 => refine' pe_tup ?c62
   case' c62 => refine' pa_cons pe_int ?c63
   case' c63 => exact (pa_cons pe_int pa_nil)
   case' c2 => refine' pss_cons ?c64 ?c65
   case' c64 => refine' ps_if ?c66 ?c67 ?c68
   case' c66 => exact (pt_cmpF op_eqI (pvF 1) pe_int (nomark _))
   case' c67 => refine' pss_one ?c69
   case' c69 => refine' ps_ret ?c70
   case' c70 => refine' pe_tup ?c71
   case' c71 => refine' pa_cons ?c72 ?c73
   case' c72 => refine' pe_fn F__law_next (hr.mono (by decide)) rfl passE0 ?c74
   case' c74 => refine' pa_cons (pvF 0) ?c75
   case' c75 => exact (pa_cons pe_int pa_nil)
   case' c73 => refine' pa_cons ?c76 pa_nil
   case' c76 => refine' pe_fn F__law_next (hr.mono (by decide)) rfl passE0 ?c77
   case' c77 => refine' pa_cons (pvF 0) ?c78
   case' c78 => exact (pa_cons pe_int pa_nil)
   case c68 => exact pss_nil
   case' c65 => refine' pss_cons ?c79 ?c80
   case' c79 => refine' ps_if ?c81 ?c82 ?c83
   case' c81 => exact (pt_cmpF op_eqI (pvF 1) pe_int (nomark _))
   case' c82 => refine' pss_one ?c84
   case' c84 => refine' ps_ret ?c85
   case' c85 => refine' pe_ix ix_F (pvF 2) ?c86 (fun _ _ => rfl)
   case' c86 => refine' pe_fn F__law_next (hr.mono (by decide)) rfl passE0 ?c87
   case' c87 => refine' pa_cons (pvF 0) ?c88
   case' c88 => exact (pa_cons pe_int pa_nil)
   case c83 => exact pss_nil
   case' c80 => refine' pss_cons ?c89 ?c90
   case' c89 => refine' ps_if ?c91 ?c92 ?c93
   case' c91 => exact (pt_cmpF op_eqI (pvF 1) pe_int (nomark _))
   case' c92 => refine' pss_cons ?c94 ?c95
   case' c94 => refine' ps_set (i := 3) sc__law_spot.nd rfl (Or.inl rfl) ?c96
   case' c96 => refine' pe_fn F__law_next (hr.mono (by decide)) rfl passE0 ?c97
   case' c97 => refine' pa_cons (pvF 0) ?c98
   case' c98 => exact (pa_cons pe_int pa_nil)
   case' c95 => refine' pss_one ?c99
   case' c99 => refine' ps_ret ?c100
   case' c100 => refine' pe_tup ?c101
   case' c101 => refine' pa_cons ?c102 ?c103
   case' c102 => exact (pe_op (OpR.f0 op_sub) pe_int (pvF 3))
   case' c103 => refine' pa_cons ?c104 pa_nil
   case' c104 => exact (pe_op (OpR.f op_mulA) pe_int (pvF 3))
   case c93 => exact pss_nil
   case' c90 => refine' pss_cons ?c105 ?c106
   case' c105 => refine' ps_if ?c107 ?c108 ?c109
   case' c107 => exact (pt_cmpF op_eqI (pvF 1) pe_int (nomark _))
   case' c108 => refine' pss_one ?c110
   case' c110 => refine' ps_ret ?c111
   case' c111 => refine' pe_tup ?c112
   case' c112 => refine' pa_cons ?c113 ?c114
   case' c113 => refine' pe_op (OpR.f0 op_sub) ?c115 pe_int
   case' c115 => refine' pe_fn F__law_next (hr.mono (by decide)) rfl passE0 ?c116
   case' c116 => refine' pa_cons (pvF 0) ?c117
   case' c117 => exact (pa_cons pe_int pa_nil)
   case' c114 => refine' pa_cons ?c118 pa_nil
   case' c118 => refine' pe_op (OpR.f0 op_sub) ?c119 pe_int
   case' c119 => refine' pe_fn F__law_next (hr.mono (by decide)) rfl passE0 ?c120
   case' c120 => refine' pa_cons (pvF 0) ?c121
   case' c121 => exact (pa_cons pe_int pa_nil)
   case c109 => exact pss_nil
   case' c106 => refine' pss_one ?c122
   case' c122 => refine' ps_ret ?c123
   case' c123 => refine' pe_tup ?c124
   case' c124 => refine' pa_cons ?c125 ?c126
   case' c125 => refine' pe_fn F__law_great (hr.mono (by decide)) rfl passE0 ?c127
   case' c127 => refine' pa_cons (pvF 0) ?c128
   case' c128 => refine' pa_cons ?c129 pa_nil
   case' c129 => refine' pe_op (OpR.f0 op_sub) ?c130 pe_int
   case' c130 => exact (pe_op (OpR.f op_powB) pe_int pe_int)
   case' c126 => refine' pa_cons ?c131 ?c132
   case' c131 => refine' pe_fn F__law_great (hr.mono (by decide)) rfl passE0 ?c133
   case' c133 => refine' pa_cons (pvF 0) ?c134
   case' c134 => refine' pa_cons ?c135 pa_nil
   case' c135 => refine' pe_op (OpR.f0 op_sub) ?c136 pe_int
   case' c136 => exact (pe_op (OpR.f op_powB) pe_int pe_int)
   case c132 => exact pa_nil
  case rest =>
   obtain ⟨hF, h⟩ := h
   simp only [L2.start, List.map_cons, List.map_nil, List.length_cons, List.length_nil, Nat.reduceAdd, Nat.reduceSub, List.replicate_succ, List.replicate_zero, List.cons_append, List.nil_append, List.append_nil]
   o_head ⟨extR⟩
   refine ⟨by decide, fun q1 k1 => ⟨by decide, fun q2 k2 => ⟨by decide, fun q3 k3 => ⟨by decide, fun q4 k4 => ⟨by decide, fun q5 k5 => ⟨by decide, fun q6 k6 => ⟨by decide, fun q7 k7 => ⟨by decide, fun q8 k8 => ⟨by decide, fun q9 k9 => ⟨by decide, fun q10 k10 => ⟨by decide, fun q11 k11 => ⟨by decide, fun q12 k12 => ⟨by decide, fun g kg => ?_⟩⟩⟩⟩⟩⟩⟩⟩⟩⟩⟩⟩⟩
   generalize hHB : upd _ g _ = HB
   have xB : Ext H HB := by rw [← hHB]; exact ((((((((((((Ext.upd k1).then k2).then k3).then k4).then k5).then k6).then k7).then k8).then k9).then k10).then k11).then k12).then kg
   have eg : HB g = some (.lst (([q1, q2, q3, q4, q5, q6, q7, q8, q9, q10, q11, q12] : List Addr).map V.ref)) := by rw [← hHB]; exact upd_same
   have r2 : R2At HB [q1, q2, q3, q4, q5, q6, q7, q8, q9, q10, q11, q12] ringP := by
    rw [← hHB]
    refine ⟨rfl, fun i q z z1 z2 => ?_⟩
    match i, z1, z2 with
    | 0, z1, z2 => cases z1; cases z2; exact upd_f kg (upd_f k12 (upd_f k11 (upd_f k10 (upd_f k9 (upd_f k8 (upd_f k7 (upd_f k6 (upd_f k5 (upd_f k4 (upd_f k3 (upd_f k2 upd_same)))))))))))
    | 1, z1, z2 => cases z1; cases z2; exact upd_f kg (upd_f k12 (upd_f k11 (upd_f k10 (upd_f k9 (upd_f k8 (upd_f k7 (upd_f k6 (upd_f k5 (upd_f k4 (upd_f k3 upd_same))))))))))
    | 2, z1, z2 => cases z1; cases z2; exact upd_f kg (upd_f k12 (upd_f k11 (upd_f k10 (upd_f k9 (upd_f k8 (upd_f k7 (upd_f k6 (upd_f k5 (upd_f k4 upd_same)))))))))
    | 3, z1, z2 => cases z1; cases z2; exact upd_f kg (upd_f k12 (upd_f k11 (upd_f k10 (upd_f k9 (upd_f k8 (upd_f k7 (upd_f k6 (upd_f k5 upd_same))))))))
    | 4, z1, z2 => cases z1; cases z2; exact upd_f kg (upd_f k12 (upd_f k11 (upd_f k10 (upd_f k9 (upd_f k8 (upd_f k7 (upd_f k6 upd_same)))))))
    | 5, z1, z2 => cases z1; cases z2; exact upd_f kg (upd_f k12 (upd_f k11 (upd_f k10 (upd_f k9 (upd_f k8 (upd_f k7 upd_same))))))
    | 6, z1, z2 => cases z1; cases z2; exact upd_f kg (upd_f k12 (upd_f k11 (upd_f k10 (upd_f k9 (upd_f k8 upd_same)))))
    | 7, z1, z2 => cases z1; cases z2; exact upd_f kg (upd_f k12 (upd_f k11 (upd_f k10 (upd_f k9 upd_same))))
    | 8, z1, z2 => cases z1; cases z2; exact upd_f kg (upd_f k12 (upd_f k11 (upd_f k10 upd_same)))
    | 9, z1, z2 => cases z1; cases z2; exact upd_f kg (upd_f k12 (upd_f k11 upd_same))
    | 10, z1, z2 => cases z1; cases z2; exact upd_f kg (upd_f k12 upd_same)
    | 11, z1, z2 => cases z1; cases z2; exact upd_f kg upd_same
   have hFB : Feed HB p := by
    obtain ⟨a, b, c, e⟩ := hF
    exact ⟨a, b, c, xB _ _ e⟩
   have fB : FX p H HB := (FX.refl hF).more xB
   have ng : g ≠ p := by
    obtain ⟨a, b, c, e⟩ := hF
    rintro rfl
    have := xB _ _ e
    rw [eg] at this
    cases this
   clear hHB
   have pick : ∀ (H1 : Hp) (r1 : Int) (QQ : V → Prop), 0 ≤ r1 → r1 < 12 → FX p HB H1 → (∀ (q : Addr) (r : P2), H1 q = some (.tup [.int r.1, .int r.2]) → (-((10 ^ 30 - 1)) ≤ r.1 ∧ r.1 ≤ (10 ^ 30 - 1)) ∧ (-((10 ^ 30 - 1)) ≤ r.2 ∧ r.2 ≤ (10 ^ 30 - 1)) → QQ (.ref q)) → optK (seqOf (H1 g)) fun xs => optK (atI xs r1) QQ := by
    intro H1 r1 QQ a1 a2 f1 hq'
    obtain ⟨i, q, rfl, hq, ha⟩ := refs_at (qs := ([q1, q2, q3, q4, q5, q6, q7, q8, q9, q10, q11, q12] : List Addr)) a1 a2
    obtain ⟨r, hr1, hr2⟩ := r2.at hq
    have eg2 := f1.keep g _ ng eg
    have nq : q ≠ p := by
     obtain ⟨a, b, c, e⟩ := hFB
     exact ne_of hr2 e (by intro z; cases z)
    have bnd : ∀ r ∈ ringP, (-((10 ^ 30 - 1)) ≤ r.1 ∧ r.1 ≤ (10 ^ 30 - 1)) ∧ (-((10 ^ 30 - 1)) ≤ r.2 ∧ r.2 ≤ (10 ^ 30 - 1)) := by unfold ringP; decide
    rw [eg2, seqOf_l, optK_some, ha, optK_some]
    exact hq' q r (f1.keep q _ nq hr2) (bnd r (List.mem_of_getElem? hr1))
   split
   ·refine ⟨p, 4, rfl, hFB, by decide, by decide, fun r1 H1 a1 a2 f1 => ⟨p, 3, rfl, f1.feed, by decide, by decide, fun r2 H2 a3 a4 f2 => ⟨by decide, fun t ht => ?_⟩⟩⟩
    exact h t r1 r2 _ ((fB.trans (f1.trans f2)).upd ht) upd_same (by omega) (by omega)
   ·split
    ·refine ⟨p, 12, rfl, hFB, by decide, by decide, fun r1 H1 a1 a2 f1 => ?_⟩
     exact pick H1 r1 _ a1 a2 f1 fun q r hq b => h q r.1 r.2 H1 (fB.trans f1) hq b.1 b.2
    ·split
     ·refine ⟨p, 9, rfl, hFB, by decide, by decide, fun r1 H1 a1 a2 f1 => ⟨.left (by decide) (by decide), by decide, fun t ht => ?_⟩⟩
      exact h t _ _ _ ((fB.trans f1).upd ht) upd_same (by omega) (by omega)
     ·split
      ·refine ⟨p, 121, rfl, hFB, by decide, by decide, fun r1 H1 a1 a2 f1 => ?_⟩
       dsimp only
       refine ⟨p, 121, rfl, f1.feed, by decide, by decide, fun r2 H2 a3 a4 f2 => ⟨by decide, fun t ht => ?_⟩⟩
       exact h t _ _ _ ((fB.trans (f1.trans f2)).upd ht) upd_same (by omega) (by omega)
      ·refine ⟨p, _, rfl, hFB, by decide, fun r1 H1 a1 a2 f1 => ⟨p, _, rfl, f1.feed, by decide, fun r2 H2 a3 a4 f2 => ⟨by decide, fun t ht => ?_⟩⟩⟩
       exact h t _ _ _ ((fB.trans (f1.trans f2)).upd ht) upd_same ⟨a1, a2⟩ ⟨a3, a4⟩
end
end LW
namespace LW
open PySem L2 MA PyProof.Rows MC
section
variable {P : Program} {w : World} {K : PySem.W.Frag} {mg : Str → Option Value} {base : Heap}
theorem sc__law_spots : FnScope ["_law_script", "_law_feed_here", "_law_many", "_law_style", "_law_found", "_law_k"] ["_law_script"] (defScope s__law_spots) := ⟨rfl, rfl, rfl, by decide +kernel, rfl, by decide +kernel, by decide +kernel⟩
set_option maxHeartbeats 0 in
theorem ok__law_spots {C : Cz} {f : Addr} {fd : FuncData} (F : Fun K "_law_spots" "_law_spots" s__law_spots f fd) (T : Txt K mg C) (F__law_feed : FnB P w K mg base (CXE P w) 1 "_law_feed" ["_law_script", "_law_k"] (sp_feed K)) (F__law_spot : FnB P w K mg base (CXE P w) 3 "_law_spot" ["_law_feed_here", "_law_style"] sp_spot) (F__law_next : FnB P w K mg base (CXE P w) 1 "_law_next" ["_law_feed_here", "_law_many"] sp_next) : FnOk P w K mg base (CXE P w) 4 f fd ["_law_script"] (sp_spots K) := by
 refine okN F (k := 3) sc__law_spots (fun vs H Q E h => ?_) (fun cdv A outer s H vs Q E hr h => ?_)
 ·obtain ⟨a, ns, rfl, _⟩ := h
  rfl
 ·obtain ⟨a, ns, rfl, h⟩ := h
  refine' ⟨_, ?main, ?rest⟩
  case main =>
   refine' pss_cons ?c1 ?c2
   case' c1 => refine' ps_set (i := 1) sc__law_spots.nd rfl (Or.inl rfl) ?c3
   case' c3 => refine' pe_fn F__law_feed (hr.mono (by decide)) rfl passE0 ?c4
   case' c4 => refine' pa_cons (pvF 0) ?c5
   case' c5 => exact (pa_cons pe_int pa_nil)
   case' c2 => refine' pss_cut ?c6 ?c7
   case' c6 => refine' ps_par (i := 2) (j := 3) ?c8 ?c9 ?c10 ?c11 ?c12 ?c13 ?c14 ?c15 ?c16
   case c8 => exact rfl
   case c9 => exact sc__law_spots.nd
   case c10 => exact rfl
   case c11 => exact rfl
   case c12 => exact (by decide)
   case c13 => exact rfl
   case c14 => exact rfl
   case' c15 => refine' pa_cons ?c17 ?c18
   case' c17 => refine' pe_op (OpR.f0 op_add) pe_int ?c19
   case' c19 => refine' pe_fn F__law_next (hr.mono (by decide)) rfl passE0 ?c20
   case' c20 => refine' pa_cons (pvF 1) ?c21
   case' c21 => exact (pa_cons pe_int pa_nil)
   case' c18 => refine' pa_cons ?c22 pa_nil
   case' c22 => refine' pe_fn F__law_next (hr.mono (by decide)) rfl passE0 ?c23
   case' c23 => refine' pa_cons (pvF 1) ?c24
   case' c24 => exact (pa_cons pe_int pa_nil)
   case c16 => exact rfl
   case' c7 => refine' pss_cut ?c25 ?c26
   case' c25 => refine' ps_if ?c27 ?c28 ?c29
   case' c27 => exact (pt_cmpF op_eqI (pvF 3) pe_int (nomark _))
   case' c28 => refine' pss_one ?c30
   case' c30 => refine' ps_set (i := 2) sc__law_spots.nd rfl (Or.inl rfl) ?c31
   case' c31 => refine' pe_callB (call_min2 rfl) (by rfl) T.b_min boot_min ?c32
   case' c32 => refine' pa_cons (pvF 2) ?c33
   case' c33 => exact (pa_cons pe_int pa_nil)
   case c29 => exact pss_nil
   case' c26 => refine' pss_cons ?c34 ?c35
   case' c34 => exact (ps_set (i := 4) sc__law_spots.nd rfl (Or.inl rfl) pe_dnewT)
   case' c35 => refine' pss_cut ?c36 ?c37
   case' c36 => refine' ps_for ?c38 ?c39 ?c40 ?c41 ?c42
   case c38 => exact PassesOwn.never
   case c39 => exact rfl
   case' c40 => refine' pi_range1 rfl T.b_range ?c43
   case' c43 => exact (pa_cons (pvF 2) pa_nil)
   case c41 => exact (pg_name (i := 5) sc__law_spots.nd rfl (Or.inl rfl))
   case' c42 => refine' pss_one ?c44
   case' c44 => refine' ps_dpT ?c45 ?c46 ?c47 ?c48 ?c49
   case c45 => exact (hu_of hr)
   case c46 => exact (pvF 4)
   case' c47 => refine' pe_fn ?c50 ?c51 ?c52 ?c53 ?c54
   case c50 => exact F__law_spot
   case c51 => exact (hr.mono (by decide))
   case c52 => exact rfl
   case c53 => exact passE0
   case' c54 => refine' pa_cons ?c55 ?c56
   case' c55 => refine' pe_fn F__law_feed (hr.mono (by decide)) rfl passE0 ?c57
   case' c57 => refine' pa_cons (pvF 0) ?c58
   case' c58 => refine' pa_cons ?c59 pa_nil
   case' c59 => exact (pe_op (OpR.f0 op_add) pe_int (pvF 5))
   case' c56 => exact (pa_cons (pvF 3) pa_nil)
   case c48 => exact pe_bl
   case c49 => exact rfl
   case' c37 => refine' pss_one ?c60
   case' c60 => refine' ps_ret ?c61
   case' c61 => refine' pe_callTy (call_listD rfl) (by rfl) T.b_list boot_list ?c62
   case' c62 => exact (pa_cons (pvF 4) pa_nil)
  case rest =>
   obtain ⟨hS, hl, h⟩ := h
   simp only [L2.start, List.map_cons, List.map_nil, List.length_cons, List.length_nil, Nat.reduceAdd, Nat.reduceSub, List.replicate_succ, List.replicate_zero, List.cons_append, List.nil_append, List.append_nil]
   o_head ⟨extR, sp_feed⟩
   refine ⟨⟨ns, hS⟩, fun p x y z hp => ?_⟩
   have x0 := Ext.upd (o := .lst [.int x, .int y, .int z]) hp
   have hF0 : Feed (upd H p (.lst [.int x, .int y, .int z])) p := ⟨x, y, z, upd_same⟩
   generalize upd H p (.lst [.int x, .int y, .int z]) = H0 at x0 hF0 ⊢
   refine ⟨fun σ H' => ∃ (n : Nat) (st : Int), σ = [some (.ref a), some (.ref p), some (.int (n : Int)), some (.int st), none, none] ∧ 1 ≤ n ∧ n ≤ 12 ∧ Ext H H' ∧ Feed H' p, ?_, ?_⟩
   ·o_head ⟨extR, sp_next⟩
    exact ⟨hF0, fun r1 H1 a1 a2 f1 => ⟨f1.feed, fun r2 H2 a3 a4 f2 => ⟨(1 + r1).toNat, by omega, ⟨_, rfl⟩, by omega, by omega, x0.fx hp (f1.trans f2), f2.feed⟩⟩⟩
   rintro σ H2 ⟨n, st, rfl, n1, n12, x1, f1⟩
   refine ⟨fun σ H' => ∃ (n : Nat) (st : Int), σ = [some (.ref a), some (.ref p), some (.int (n : Int)), some (.int st), none, none] ∧ 1 ≤ n ∧ n ≤ 12 ∧ Ext H H' ∧ Feed H' p, ?_, ?_⟩
   ·o_head ⟨extR⟩
    split
    ·refine ⟨min n 4, ?_, by omega, by omega, x1, f1⟩
     split <;> omega
    ·exact ⟨n, rfl, n1, n12, x1, f1⟩
   ·rintro σ H3 ⟨n, st, rfl, n1, n12, x2, f2⟩
    o_head ⟨extR⟩
    intro D hD
    have nD := f2.ne hD
    have xD := x2.then (o := .dT []) hD
    have fD : Feed (upd H3 D (.dT [])) p := f2.upd hD
    have eD := upd_same (H := H3) (a := D) (o := .dT [])
    have hDn : H D = none := LW.Ext.none x2 hD
    generalize upd H3 D (.dT []) = H4 at xD fD eD ⊢
    refine ⟨fun σ H' => ∃ (o5 : Option V) (kvs : List (List Key × V)), σ = [some (.ref a), some (.ref p), some (.int (n : Int)), some (.int st), some (.ref D), o5] ∧ H' D = some (.dT kvs) ∧ KvOk kvs ∧ 0 < kvs.length ∧ kvs.length ≤ 12 ∧ Ext H H' ∧ Feed H' p, ?_, ?_⟩
    ·refine tfor_range n (fun R hR => by o_head ⟨extR⟩; exact hR) (by omega) (fun i σ H' => ∃ (o5 : Option V) (kvs : List (List Key × V)), σ = [some (.ref a), some (.ref p), some (.int (n : Int)), some (.int st), some (.ref D), o5] ∧ H' D = some (.dT kvs) ∧ KvOk kvs ∧ (0 < i → 0 < kvs.length) ∧ kvs.length ≤ i ∧ Ext H H' ∧ Feed H' p) ⟨_, [], rfl, eD, ⟨List.nodup_nil, fun kv hk => absurd hk List.not_mem_nil⟩, fun q => absurd q (Nat.lt_irrefl _), Nat.le_refl _, xD, fD⟩ ?_ ?_
     ·rintro i σ H5 hi ⟨o5, kvs, rfl, eK, kok, k0, kl, x5, f5⟩
      o_head ⟨extR, sp_feed, sp_spot⟩
      refine ⟨⟨ns, x5.sqL hS⟩, fun q x' y' z' hq => ⟨⟨_, _, _, upd_same⟩, fun t x1 y1 H6 f6 et bx by' => ?_⟩⟩
      have nDq : D ≠ q := ne_of_none eK hq
      have npq : p ≠ q := (f5.ne hq).symm
      have eK6 := f6.keep D _ nDq (upd_f hq eK)
      have x6 : Ext H H6 := fun b o e => f6.keep b o (ne_of_none (x5 b o e) hq) (upd_f hq (x5 b o e))
      have f56 : Feed H6 p := by
       obtain ⟨a1, a2, a3, e⟩ := f5
       exact ⟨a1, a2, a3, f6.keep p _ npq (upd_f hq e)⟩
      obtain ⟨kok2, kpos⟩ := kok.put bx by' (.bl true)
      refine ⟨kvs, eK6, _, et, [Sum.inl x1, Sum.inl y1], rfl, by omega, _, rfl, kok2, fun _ => kpos, ?_, x6.set hDn, ?_⟩
      ·have := length_putK kvs [Sum.inl x1, Sum.inl y1] (.bl true)
       omega
      ·obtain ⟨a1, a2, a3, e⟩ := f56
       exact ⟨a1, a2, a3, (upd_ne nD.symm).trans e⟩
     ·rintro σ H5 ⟨o5, kvs, rfl, eK, kok, k0, kl, x5, f5⟩
      exact ⟨o5, kvs, rfl, eK, kok, k0 n1, by omega, x5, f5⟩
    ·rintro σ H5 ⟨o5, kvs, rfl, eK, kok, k0, kl, x5, f5⟩
     o_head ⟨extR, eK⟩
     refine ⟨kvs, rfl, fun l as hl' hlen hat => ?_⟩
     have key : ∀ (i : Nat) (kv : List Key × V), kvs[i]? = some kv → kv.1 = [Sum.inl (kXY kv).1, Sum.inl (kXY kv).2] := by
      intro i kv hi
      obtain ⟨x1, y1, e, _⟩ := kok.2 kv (List.mem_of_getElem? hi)
      obtain ⟨k1, v1⟩ := kv
      dsimp only at e
      subst e
      rfl
     refine h l as (kvs.map kXY) _ (x5.then hl') ⟨upd_same, ⟨by rw [List.length_map, hlen], fun i q r h1 h2 => ?_⟩, ?_, by rw [List.length_map]; exact k0, by rw [List.length_map]; exact kl, fun r hr => ?_⟩
     ·rw [List.getElem?_map] at h2
      cases e : kvs[i]? with
      | none => rw [e] at h2; cases h2
      | some kv =>
       rw [e] at h2
       cases h2
       have := hat i q kv h1 e
       rw [key i kv e] at this
       exact upd_f hl' this
     ·exact kv_nodup kok
     ·obtain ⟨kv, hk, rfl⟩ := List.mem_map.mp hr
      obtain ⟨x1, y1, e, b1, b2⟩ := kok.2 kv hk
      obtain ⟨k1, v1⟩ := kv
      dsimp only at e
      subst e
      have bd : ∀ z : Int, -(10 ^ 30 - 1) ≤ z → z ≤ 10 ^ 30 - 1 → Bd 101 z := fun z h1 h2 => by
       have : (10 : Int) ^ 30 < 2 ^ 101 := by decide
       have e : (2 : Int) ^ 101 = ((2 ^ 101 : Nat) : Int) := by decide
       show z.natAbs < 2 ^ 101
       omega
      exact ⟨bd _ b1.1 b1.2, bd _ b2.1 b2.2⟩
end
end LW
namespace LW
open PySem L2 MA PyProof.Rows MC
section
variable {P : Program} {w : World} {K : PySem.W.Frag} {mg : Str → Option Value} {base : Heap}
theorem sc__law_between : FnScope ["_law_one", "_law_other", "_law_third"] ["_law_one", "_law_other", "_law_third"] (defScope s__law_between) := ⟨rfl, rfl, rfl, by decide +kernel, rfl, by decide +kernel, by decide +kernel⟩
set_option maxHeartbeats 0 in
theorem ok__law_between {C : Cz} {f : Addr} {fd : FuncData} (F : Fun K "_law_between" "_law_between" s__law_between f fd) (T : Txt K mg C)  : FnOk P w K mg base (CXE P w) 1 f fd ["_law_one", "_law_other", "_law_third"] sp_btw := by
 refine okN F (k := 0) sc__law_between (fun vs H Q E h => ?_) (fun cdv A outer s H vs Q E hr h => ?_)
 ·obtain ⟨p, q, t, x, y, z, rfl, _⟩ := h
  rfl
 ·obtain ⟨p, q, t, x, y, z, rfl, h⟩ := h
  refine' ⟨_, ?main, ?rest⟩
  case main =>
   refine' pss_one ?c1
   case' c1 => refine' ps_ret ?c2
   case' c2 => refine' pe_and ?c3 ?c4
   case' c3 => refine' pe_chain ?c5 ?c6 ?c7 ?c8 ?c9
   case c5 => exact (OpR.f0 op_le)
   case c6 => exact (OpR.f0 op_le)
   case' c7 => refine' pe_callB (call_min2 rfl) (by rfl) T.b_min boot_min ?c10
   case' c10 => refine' pa_cons ?c11 ?c12
   case' c11 => exact (pe_ix ix_F (pvF 0) pe_int (fun _ _ => rfl))
   case' c12 => refine' pa_cons ?c13 pa_nil
   case' c13 => exact (pe_ix ix_F (pvF 1) pe_int (fun _ _ => rfl))
   case' c8 => exact (pe_ix ix_F (pvF 2) pe_int (fun _ _ => rfl))
   case' c9 => refine' pe_callB (call_max2 rfl) (by rfl) T.b_max boot_max ?c14
   case' c14 => refine' pa_cons ?c15 ?c16
   case' c15 => exact (pe_ix ix_F (pvF 0) pe_int (fun _ _ => rfl))
   case' c16 => refine' pa_cons ?c17 pa_nil
   case' c17 => exact (pe_ix ix_F (pvF 1) pe_int (fun _ _ => rfl))
   case' c4 => refine' pe_one ?c18
   case' c18 => refine' pe_chain ?c19 ?c20 ?c21 ?c22 ?c23
   case c19 => exact (OpR.f0 op_le)
   case c20 => exact (OpR.f0 op_le)
   case' c21 => refine' pe_callB (call_min2 rfl) (by rfl) T.b_min boot_min ?c24
   case' c24 => refine' pa_cons ?c25 ?c26
   case' c25 => exact (pe_ix ix_F (pvF 0) pe_int (fun _ _ => rfl))
   case' c26 => refine' pa_cons ?c27 pa_nil
   case' c27 => exact (pe_ix ix_F (pvF 1) pe_int (fun _ _ => rfl))
   case' c22 => exact (pe_ix ix_F (pvF 2) pe_int (fun _ _ => rfl))
   case' c23 => refine' pe_callB (call_max2 rfl) (by rfl) T.b_max boot_max ?c28
   case' c28 => refine' pa_cons ?c29 ?c30
   case' c29 => exact (pe_ix ix_F (pvF 0) pe_int (fun _ _ => rfl))
   case' c30 => refine' pa_cons ?c31 pa_nil
   case' c31 => exact (pe_ix ix_F (pvF 1) pe_int (fun _ _ => rfl))
  case rest =>
   obtain ⟨hp, hq, ht, h⟩ := h
   simp only [L2.start, List.map_cons, List.map_nil, List.length_cons, List.length_nil, Nat.reduceAdd, Nat.reduceSub, List.replicate_succ, List.replicate_zero, List.cons_append, List.nil_append, List.append_nil]
   obtain ⟨x1, x2, x3⟩ := x
   obtain ⟨y1, y2, y3⟩ := y
   obtain ⟨z1, z2, z3⟩ := z
   unfold Btw at h
   dsimp only at h
   o_head ⟨extR, tChain, hp, hq, ht⟩
   have key : ∀ b : Bool, b = decide (((x1 ≤ z1 ∧ z1 ≤ y1) ∨ (y1 ≤ z1 ∧ z1 ≤ x1)) ∧ ((x2 ≤ z2 ∧ z2 ≤ y2) ∨ (y2 ≤ z2 ∧ z2 ≤ x2))) → Q (.bl b) H := fun b e => by rw [e]; exact h
   clear h
   repeat' split
   all_goals
    refine key _ ?_
    first
     | rw [decide_eq_decide]; omega
     | (symm; rw [decide_eq_false_iff_not]; omega)
end
end LW
namespace LW
open PySem L2 MA PyProof.Rows MC
section
variable {P : Program} {w : World} {K : PySem.W.Frag} {mg : Str → Option Value} {base : Heap}
theorem sc__law_is_step : FnScope ["_law_points", "_law_i", "_law_j", "_law_k", "_law_side"] ["_law_points", "_law_i", "_law_j"] (defScope s__law_is_step) := ⟨rfl, rfl, rfl, by decide +kernel, rfl, by decide +kernel, by decide +kernel⟩
set_option maxHeartbeats 0 in
theorem ok__law_is_step {C : Cz} {f : Addr} {fd : FuncData} (F : Fun K "_law_is_step" "_law_is_step" s__law_is_step f fd) (T : Txt K mg C) (F__law_between : FnB P w K mg base (CXE P w) 1 "_law_between" ["_law_one", "_law_other", "_law_third"] sp_btw) (F_turn : FnB P w K mg base (CXE P w) 2 "turn" ["one", "other", "third"] sp_turn) : FnOk P w K mg base (CXE P w) 3 f fd ["_law_points", "_law_i", "_law_j"] (sp_isstep K) := by
 refine okN F (k := 2) sc__law_is_step (fun vs H Q E h => ?_) (fun cdv A outer s H vs Q E hr h => ?_)
 ·obtain ⟨L, i, j, ts, rs, rfl, _⟩ := h
  rfl
 ·obtain ⟨L, i, j, ts, rs, rfl, h⟩ := h
  refine' ⟨_, ?main, ?rest⟩
  case main =>
   refine' pss_cut ?c1 ?c2
   case' c1 => refine' ps_for ?c3 ?c4 ?c5 ?c6 ?c7
   case c3 => exact PassesOwn.never
   case c4 => exact rfl
   case' c5 => refine' pi_range1 rfl T.b_range ?c8
   case' c8 => refine' pa_cons ?c9 pa_nil
   case' c9 => refine' pe_callB call_lenF (by rfl) T.b_len PySem.boot_len ?c10
   case' c10 => exact (pa_cons (pvF 0) pa_nil)
   case c6 => exact (pg_name (i := 3) sc__law_is_step.nd rfl (Or.inl rfl))
   case' c7 => refine' pss_one ?c11
   case' c11 => refine' ps_if ?c12 ?c13 ?c14
   case' c12 => refine' pt_cmpF (op_notIn_seqK (K := K) rfl) (pvF 3) ?c15 (by with_unfolding_all rfl)
   case' c15 => refine' pe_lst ?c16
   case' c16 => refine' pa_cons (pvF 1) ?c17
   case' c17 => exact (pa_cons (pvF 2) pa_nil)
   case' c13 => refine' pss_cons ?c18 ?c19
   case' c18 => refine' ps_set (i := 4) sc__law_is_step.nd rfl (Or.inl rfl) ?c20
   case' c20 => refine' pe_fn F_turn (hr.mono (by decide)) rfl passE0 ?c21
   case' c21 => refine' pa_cons (pe_ix ix_F (pvF 0) (pvF 1) (fun _ _ => rfl)) ?c22
   case' c22 => refine' pa_cons (pe_ix ix_F (pvF 0) (pvF 2) (fun _ _ => rfl)) ?c23
   case' c23 => exact (pa_cons (pe_ix ix_F (pvF 0) (pvF 3) (fun _ _ => rfl)) pa_nil)
   case' c19 => refine' pss_one ?c24
   case' c24 => refine' ps_if ?c25 ?c26 ?c27
   case' c25 => refine' PW.pt ?c28
   case' c28 => refine' pw_or ?c29 ?c30
   case' c29 => exact (pt_cmpF (OpR.f0 op_lt) (pvF 4) pe_int (nomark _))
   case' c30 => refine' pw_or1 ?c31
   case' c31 => refine' PW.pt ?c32
   case' c32 => refine' pw_and ?c33 ?c34
   case' c33 => exact (pt_cmpF op_eqI (pvF 4) pe_int (nomark _))
   case' c34 => refine' pw_and1 ?c35
   case' c35 => refine' pt_valF ?c36
   case' c36 => refine' pe_fn F__law_between (hr.mono (by decide)) rfl passE0 ?c37
   case' c37 => refine' pa_cons (pe_ix ix_F (pvF 0) (pvF 1) (fun _ _ => rfl)) ?c38
   case' c38 => refine' pa_cons (pe_ix ix_F (pvF 0) (pvF 2) (fun _ _ => rfl)) ?c39
   case' c39 => exact (pa_cons (pe_ix ix_F (pvF 0) (pvF 3) (fun _ _ => rfl)) pa_nil)
   case' c26 => refine' pss_one ?c40
   case' c40 => exact (ps_ret pe_bl)
   case c27 => exact pss_nil
   case c14 => exact pss_nil
   case' c2 => refine' pss_one ?c41
   case' c41 => exact (ps_ret pe_bl)
  case rest =>
   obtain ⟨hL, pt, bs, n12, il, jl, h⟩ := h
   obtain ⟨qi, ai, ei⟩ := pt.get il
   obtain ⟨qj, aj, ej⟩ := pt.get jl
   have lt : (ts.map V.ref).length = rs.length := by rw [List.length_map, pt.1]
   simp only [L2.start, List.map_cons, List.map_nil, List.length_cons, List.length_nil, Nat.reduceAdd, Nat.reduceSub, List.replicate_succ, List.replicate_zero, List.cons_append, List.nil_append, List.append_nil]
   refine ⟨fun σ H' => ∃ o3 o4 : Option V, σ = [some (.ref L), some (.int (i : Int)), some (.int (j : Int)), o3, o4] ∧ Ext H H' ∧ Stp (sAt rs) rs.length i j, ?_, ?_⟩
   ·refine tfor_range rs.length (fun R hR => by o_head ⟨extR, hL, lt⟩; exact hR) (by omega) (fun k σ H' => ∃ o3 o4 : Option V, σ = [some (.ref L), some (.int (i : Int)), some (.int (j : Int)), o3, o4] ∧ Ext H H' ∧ StpK (sAt rs) k i j) ⟨_, _, rfl, .refl _, fun k hk => by omega⟩ ?_ ?_
    rotate_left
    ·rintro σ H1 ⟨o3, o4, rfl, x1, s⟩
     o_head ⟨extR⟩
     exact ⟨x1, s⟩
    rintro k σ H1 hk ⟨o3, o4, rfl, x1, s⟩
    obtain ⟨qk, ak, ek⟩ := pt.get hk
    o_head ⟨extR, Int.zero_add⟩
    refine ⟨by decide, fun p hp => ⟨_, _, rfl, .inl (SqL.of upd_same), rfl, rfl, ?_⟩⟩
    have x2 := x1.then (o := .lst [.int (i : Int), .int (j : Int)]) hp
    generalize upd H1 p (.lst [.int (i : Int), .int (j : Int)]) = H2 at x2 ⊢
    rw [if_pos rfl, inV_two]
    by_cases c : k = i ∨ k = j
    ·rw [decide_eq_true c]
     o_head ⟨extR, x2⟩
     intro a ha na nb
     by_cases e : a = k
     ·omega
     ·exact s a (by omega) na nb
    rw [decide_eq_false c]
    have z1 : Bd 2000 1 := by unfold Bd; decide
    have b3 : ∀ a, B3 2000 ((sAt rs a).1, (sAt rs a).2, 1) := fun a => ⟨(bs a).1.mono (by decide), (bs a).2.mono (by decide), z1⟩
    have ed : det3 (sAt rs i).1 (sAt rs i).2 1 (sAt rs j).1 (sAt rs j).2 1 (sAt rs k).1 (sAt rs k).2 1 = trn (sAt rs i) (sAt rs j) (sAt rs k) := by unfold det3 trn; grind
    have e1 := x2 _ _ ei
    have e2 := x2 _ _ ej
    have e3 := x2 _ _ ek
    o_head ⟨extR, x2 _ _ hL, ai, aj, ak, sp_turn, sp_btw, e1, e2, e3, ed, Bool.not_false⟩
    refine ⟨b3 i, b3 j, b3 k, ?_⟩
    have no : ¬ (0 ≤ trn (sAt rs i) (sAt rs j) (sAt rs k) ∧ (trn (sAt rs i) (sAt rs j) (sAt rs k) = 0 → ¬ Btw (sAt rs i) (sAt rs j) (sAt rs k))) → Q (.bl false) H2 := fun g => by
     have := h H2 x2
     rw [decide_eq_false (fun g2 => g (g2 k hk (fun e => c (.inl e)) fun e => c (.inr e)))] at this
     exact this
    have go : 0 ≤ trn (sAt rs i) (sAt rs j) (sAt rs k) → (trn (sAt rs i) (sAt rs j) (sAt rs k) = 0 → ¬ Btw (sAt rs i) (sAt rs j) (sAt rs k)) → StpK (sAt rs) (k + 1) i j := fun g1 g2 a ha na nb => by
     by_cases e : a = k
     ·subst e
      exact ⟨g1, g2⟩
     ·exact s a (by omega) na nb
    by_cases c1 : trn (sAt rs i) (sAt rs j) (sAt rs k) < 0
    ·rw [if_pos (sgn_lt.mpr c1)]
     exact no (by omega)
    rw [if_neg (fun g => c1 (sgn_lt.mp g))]
    by_cases c2 : trn (sAt rs i) (sAt rs j) (sAt rs k) = 0
    ·rw [c2, if_pos (show sgn 0 = 0 from rfl)]
     refine ⟨(_, _, _), rfl, (_, _, _), rfl, (_, _, _), rfl, ?_⟩
     by_cases c3 : Btw (sAt rs i) (sAt rs j) (sAt rs k)
     ·rw [if_pos c3]
      exact no fun g => g.2 c2 c3
     ·rw [if_neg c3]
      exact ⟨x2, go (by omega) fun _ => c3⟩
    ·rw [if_neg (by unfold sgn; rw [if_neg c1]; split <;> omega)]
     exact ⟨x2, go (by omega) fun g => absurd g c2⟩
   rintro σ H1 ⟨o3, o4, rfl, x1, s⟩
   o_head ⟨extR⟩
   have := h H1 x1
   rw [decide_eq_true s] at this
   exact this
end
end LW
namespace LW
open PySem L2 MA PyProof.Rows MC
section
variable {P : Program} {w : World} {K : PySem.W.Frag} {mg : Str → Option Value} {base : Heap}
theorem sc_law : FnScope ["_law_script", "_law_spots_here", "_law_points", "_law_found", "_law_due", "_law_i", "_law_steps", "_law_pairs"] ["_law_script"] (defScope s_law) := ⟨rfl, rfl, rfl, by decide +kernel, rfl, by decide +kernel, by decide +kernel⟩
set_option maxHeartbeats 0 in
theorem ok_law {C : Cz} {f : Addr} {fd : FuncData} (F : Fun K "law" "law" s_law f fd) (T : Txt K mg C) (F_rim : FnB P w K mg base (CXE P w) 5 "rim" ["spots"] (sp_rim K C)) (F_ties : FnB P w K mg base (CXE P w) 6 "ties" ["spots"] (sp_ties K)) (F__law_is_step : FnB P w K mg base (CXE P w) 3 "_law_is_step" ["_law_points", "_law_i", "_law_j"] (sp_isstep K)) (F_ahead : FnB P w K mg base (CXE P w) 1 "ahead" ["one", "other"] sp_ahead) (F__law_spots : FnB P w K mg base (CXE P w) 4 "_law_spots" ["_law_script"] (sp_spots K)) : FnOk P w K mg base (CXE P w) 7 f fd ["_law_script"] (sp_law K C.lp_by_place) := by
 refine okN F (k := 6) sc_law (fun vs H Q E h => ?_) (fun cdv A outer s H vs Q E hr h => ?_)
 ·obtain ⟨a, ns, rfl, _⟩ := h
  rfl
 ·obtain ⟨a, ns, rfl, h⟩ := h
  refine' ⟨_, ?main, ?rest⟩
  case main =>
   refine' pss_cut ?c1 ?c2
   case' c1 => refine' ps_set (i := 1) sc_law.nd rfl (Or.inl rfl) ?c3
   case' c3 => refine' pe_fn F__law_spots (hr.mono (by decide)) rfl passE0 ?c4
   case' c4 => exact (pa_cons (pvF 0) pa_nil)
   case' c2 => refine' pss_cut ?c5 ?c6
   case' c5 => refine' ps_set (i := 2) ?c7 ?c8 ?c9 ?c10
   case c7 => exact sc_law.nd
   case c8 => exact rfl
   case c9 => exact (Or.inr rfl)
   case' c10 => refine' pe_lc (CScope.of_ok (dsc := defScope s_law) (N0 := ["_law_script", "_law_spots_here", "_law_points", "_law_found", "_law_due", "_law_i", "_law_steps", "_law_pairs"]) (N := ["_law_spot_here"]) (k := 1) (js := []) rfl rfl (by decide +kernel)) rfl (pi_listK (K := K) rfl (pvF 1)) ?c11 ?c12 ?c13
   case' c11 => intro _ _ _ _ _ _; exact (pg_name (i := 0) (by show List.Nodup (["_law_spot_here"] : List Str); decide +kernel) rfl (Or.inl rfl))
   case' c12 => intro _ _ _ _ _ _; exact pifs_nil
   case' c13 => intro _ _ _ _ _ _; refine' pe_tup ?c14
   case' c14 => refine' pa_cons ?c15 ?c16
   case' c15 => exact (pe_ix ix_F (pvF 0) pe_int (fun _ _ => rfl))
   case' c16 => refine' pa_cons ?c17 ?c18
   case' c17 => exact (pe_ix ix_F (pvF 0) pe_int (fun _ _ => rfl))
   case' c18 => exact (pa_cons pe_int pa_nil)
   case' c6 => refine' pss_cut ?c19 ?c20
   case' c19 => refine' ps_set (i := 3) sc_law.nd rfl (Or.inr rfl) ?c21
   case' c21 => refine' pe_fn F_rim (hr.mono (by decide)) rfl passE0 ?c22
   case' c22 => exact (pa_cons (pvF 1) pa_nil)
   case' c20 => refine' pss_cut ?c23 ?c24
   case' c23 => refine' ps_if ?c25 ?c26 ?c27
   case' c25 => refine' PW.pt ?c28
   case' c28 => refine' pw_or ?c29 ?c30
   case' c29 => refine' pt_not ?c31
   case' c31 => refine' pt_valF ?c32
   case' c32 => refine' pe_callB (call_isiK (K := K) rfl) (by rfl) T.b_isinstance boot_isinstance ?c33
   case' c33 => refine' pa_cons (pvF 3) ?c34
   case' c34 => exact (pa_cons (pe_bltn (v := V.ty "list") rfl T.b_list boot_list rfl) pa_nil)
   case' c30 => refine' pw_or1 ?c35
   case' c35 => refine' pt_cmpF op_eqI ?c36 pe_int (nomark _)
   case' c36 => refine' pe_callB call_lenF (by rfl) T.b_len PySem.boot_len ?c37
   case' c37 => exact (pa_cons (pvF 3) pa_nil)
   case' c26 => refine' pss_one ?c38
   case' c38 => exact (ps_ret pe_bl)
   case c27 => exact pss_nil
   case' c24 => refine' pss_cut ?c39 ?c40
   case' c39 => refine' ps_if ?c41 ?c42 ?c43
   case' c41 => refine' pt_not ?c44
   case' c44 => refine' pt_valF ?c45
   case' c45 => refine' pe_callB ?c46 ?c47 ?c48 ?c49 ?c50
   case c46 => exact (call_allK (K := K) rfl rfl)
   case c47 => exact (by rfl)
   case c48 => exact T.b_all
   case c49 => exact boot_all
   case' c50 => refine' pa_cons ?c51 ?c52
   case' c51 => refine' pe_lc (CScope.of_ok (dsc := defScope s_law) (N0 := ["_law_script", "_law_spots_here", "_law_points", "_law_found", "_law_due", "_law_i", "_law_steps", "_law_pairs"]) (N := ["_law_number", "_law_found", "_law_points"]) (k := 1) (js := [3, 2]) rfl rfl (by decide +kernel)) rfl ?c53 ?c54 ?c55 ?c56
   case' c53 => refine' pi_range1 rfl T.b_range ?c57
   case' c57 => refine' pa_cons ?c58 pa_nil
   case' c58 => refine' pe_callB call_lenF (by rfl) T.b_len PySem.boot_len ?c59
   case' c59 => exact (pa_cons (pvF 1) pa_nil)
   case' c54 => intro _ _ _ _ _ _; exact (pg_name (i := 0) (by show List.Nodup (["_law_number", "_law_found", "_law_points"] : List Str); decide +kernel) rfl (Or.inl rfl))
   case' c55 => intro _ _ _ _ _ _; exact pifs_nil
   case' c56 => intro _ _ _ _ _ _; refine' pe_or ?c60 ?c61
   case' c60 => refine' pe_cmpR op_eqI (pvF 0) ?c62 (nomark _)
   case' c62 => exact (pe_ix ix_F (pvF 1) pe_int (fun _ _ => rfl))
   case' c61 => refine' pe_one ?c63
   case' c63 => refine' pe_fn F_ahead (hr.mono (by decide)) rfl passE0 ?c64
   case' c64 => refine' pa_cons ?c65 ?c66
   case' c65 => refine' pe_ix ix_F (pvF 2) ?c67 (fun _ _ => rfl)
   case' c67 => exact (pe_ix ix_F (pvF 1) pe_int (fun _ _ => rfl))
   case' c66 => exact (pa_cons (pe_ix ix_F (pvF 2) (pvF 0) (fun _ _ => rfl)) pa_nil)
   case c52 => exact pa_nil
   case' c42 => refine' pss_one ?c68
   case' c68 => exact (ps_ret pe_bl)
   case c43 => exact pss_nil
   case' c40 => refine' pss_cut ?c69 ?c70
   case' c69 => refine' ps_if ?c71 ?c72 ?c73
   case' c71 => refine' pt_cmpF op_eqI ?c74 pe_int (nomark _)
   case' c74 => refine' pe_callB call_lenF (by rfl) T.b_len PySem.boot_len ?c75
   case' c75 => exact (pa_cons (pvF 1) pa_nil)
   case' c72 => refine' pss_one ?c76
   case' c76 => refine' ps_ret ?c77
   case' c77 => refine' pe_cmpR (op_eqDK (K := K) rfl (hu64 hr)) (pvF 3) ?c78 (nomark _)
   case' c78 => refine' pe_lst ?c79
   case' c79 => exact (pa_cons pe_int pa_nil)
   case c73 => exact pss_nil
   case' c70 => refine' pss_cut ?c80 ?c81
   case' c80 => refine' ps_set (i := 4) sc_law.nd rfl (Or.inl rfl) ?c82
   case' c82 => exact (pe_lst pa_nil)
   case' c81 => refine' pss_cut ?c83 ?c84
   case' c83 => refine' ps_for ?c85 ?c86 ?c87 ?c88 ?c89
   case c85 => exact PassesOwn.never
   case c86 => exact rfl
   case' c87 => refine' pi_range1 rfl T.b_range ?c90
   case' c90 => refine' pa_cons ?c91 pa_nil
   case' c91 => refine' pe_callB call_lenF (by rfl) T.b_len PySem.boot_len ?c92
   case' c92 => exact (pa_cons (pvF 1) pa_nil)
   case c88 => exact (pg_name (i := 5) sc_law.nd rfl (Or.inr rfl))
   case' c89 => refine' pss_one ?c93
   case' c93 => refine' ps_expr ?c94
   case' c94 => refine' pe_ext ?c95 ?c96
   case c95 => exact (pvF 4)
   case' c96 => refine' pa_cons ?c97 ?c98
   case' c97 => refine' pe_lc (CScope.of_ok (dsc := defScope s_law) (N0 := ["_law_script", "_law_spots_here", "_law_points", "_law_found", "_law_due", "_law_i", "_law_steps", "_law_pairs"]) (N := ["_law_j", "_law_i", "_law_points"]) (k := 1) (js := [5, 2]) rfl rfl (by decide +kernel)) rfl ?c99 ?c100 ?c101 ?c102
   case' c99 => refine' pi_range1 rfl T.b_range ?c103
   case' c103 => refine' pa_cons ?c104 pa_nil
   case' c104 => refine' pe_callB call_lenF (by rfl) T.b_len PySem.boot_len ?c105
   case' c105 => exact (pa_cons (pvF 1) pa_nil)
   case' c100 => intro _ _ _ _ _ _; exact (pg_name (i := 0) (by show List.Nodup (["_law_j", "_law_i", "_law_points"] : List Str); decide +kernel) rfl (Or.inl rfl))
   case' c101 => intro _ _ _ _ _ _; refine' pifs_one ?c106
   case' c106 => refine' PW.pt ?c107
   case' c107 => refine' pw_and (pt_cmpF op_neI (pvF 0) (pvF 1) (nomark _)) ?c108
   case' c108 => refine' pw_and1 ?c109
   case' c109 => refine' pt_valF ?c110
   case' c110 => refine' pe_fn F__law_is_step (hr.mono (by decide)) rfl passE0 ?c111
   case' c111 => refine' pa_cons (pvF 2) ?c112
   case' c112 => refine' pa_cons (pvF 1) ?c113
   case' c113 => exact (pa_cons (pvF 0) pa_nil)
   case' c102 => intro _ _ _ _ _ _; refine' pe_tup ?c114
   case' c114 => refine' pa_cons (pvF 1) ?c115
   case' c115 => exact (pa_cons (pvF 0) pa_nil)
   case c98 => exact pa_nil
   case' c84 => refine' pss_cut ?c116 ?c117
   case' c116 => refine' ps_lc (i := 6) ?c118 ?c119 ?c120 ?c121 ?c122 ?c123 ?c124 ?c125 ?c126
   case c118 => exact (CScope.of_ok (dsc := defScope s_law) (N0 := ["_law_script", "_law_spots_here", "_law_points", "_law_found", "_law_due", "_law_i", "_law_steps", "_law_pairs"]) (N := ["_law_k", "_law_found"]) (k := 1) (js := [3]) rfl rfl (by decide +kernel))
   case c119 => exact rfl
   case' c120 => refine' pi_range1 rfl T.b_range ?c127
   case' c127 => refine' pa_cons ?c128 pa_nil
   case' c128 => refine' pe_callB call_lenF (by rfl) T.b_len PySem.boot_len ?c129
   case' c129 => exact (pa_cons (pvF 3) pa_nil)
   case' c121 => intro _ _ _ _ _ _; exact (pg_name (i := 0) (by show List.Nodup (["_law_k", "_law_found"] : List Str); decide +kernel) rfl (Or.inl rfl))
   case' c122 => intro _ _ _ _ _ _; exact pifs_nil
   case' c123 => intro _ _ _ _ _ _; refine' pe_tup ?c130
   case' c130 => refine' pa_cons ?c131 ?c132
   case' c131 => refine' pe_ix ix_F (pvF 1) ?c133 (fun _ _ => rfl)
   case' c133 => exact (pe_op (OpR.f0 op_sub) (pvF 0) pe_int)
   case' c132 => exact (pa_cons (pe_ix ix_F (pvF 1) (pvF 0) (fun _ _ => rfl)) pa_nil)
   case c124 => exact sc_law.nd
   case c125 => exact rfl
   case c126 => exact rfl
   case' c117 => refine' pss_cut ?c134 ?c135
   case' c134 => refine' ps_if ?c136 ?c137 pss_nil
   case' c136 => refine' pt_cmpF (op_neDK (K := K) rfl (hu64 hr)) ?c138 (pvF 4) (nomark _)
   case' c138 => refine' pe_callB (call_sortT (K := K) rfl rfl) (by rfl) T.b_sorted boot_sorted ?c139
   case' c139 => exact (pa_cons (pvF 6) pa_nil)
   case' c137 => refine' pss_one ?c140
   case' c140 => exact (ps_ret pe_bl)
   case' c135 => refine' pss_cut ?c141 ?c142
   case' c141 => refine' ps_set (i := 7) sc_law.nd rfl (Or.inr rfl) ?c143
   case' c143 => refine' pe_fn F_ties (hr.mono (by decide)) rfl passE0 ?c144
   case' c144 => exact (pa_cons (pvF 1) pa_nil)
   case' c142 => refine' pss_cut ?c145 ?c146
   case' c145 => refine' ps_if ?c147 ?c148 ?c149
   case' c147 => refine' pt_not ?c150
   case' c150 => refine' pt_valF ?c151
   case' c151 => refine' pe_callB ?c152 ?c153 ?c154 ?c155 ?c156
   case c152 => exact (call_allK (K := K) rfl rfl)
   case c153 => exact (by rfl)
   case c154 => exact T.b_all
   case c155 => exact boot_all
   case' c156 => refine' pa_cons ?c157 ?c158
   case' c157 => refine' pe_lc (CScope.of_ok (dsc := defScope s_law) (N0 := ["_law_script", "_law_spots_here", "_law_points", "_law_found", "_law_due", "_law_i", "_law_steps", "_law_pairs"]) (N := ["_law_step", "_law_pairs"]) (k := 1) (js := [7]) rfl rfl (by decide +kernel)) rfl (pi_listK (K := K) rfl (pvF 6)) ?c159 ?c160 ?c161
   case' c159 => intro _ _ _ _ _ _; exact (pg_name (i := 0) (by show List.Nodup (["_law_step", "_law_pairs"] : List Str); decide +kernel) rfl (Or.inl rfl))
   case' c160 => intro _ _ _ _ _ _; exact pifs_nil
   case' c161 => intro _ _ _ _ _ _; refine' pe_cmpR ?c162 ?c163 ?c164 ?c165
   case c162 => exact (op_inDK (K := K) rfl (hu65 hr))
   case' c163 => refine' pe_tup ?c166
   case' c166 => refine' pa_cons ?c167 ?c168
   case' c167 => refine' pe_callB (call_minT (K := K) rfl rfl) (by rfl) T.b_min boot_min ?c169
   case' c169 => exact (pa_cons (pvF 0) pa_nil)
   case' c168 => refine' pa_cons ?c170 pa_nil
   case' c170 => refine' pe_callB (call_maxT (K := K) rfl rfl) (by rfl) T.b_max boot_max ?c171
   case' c171 => exact (pa_cons (pvF 0) pa_nil)
   case c164 => exact (pvF 1)
   case c165 => exact (by with_unfolding_all rfl)
   case c158 => exact pa_nil
   case' c148 => refine' pss_one ?c172
   case' c172 => exact (ps_ret pe_bl)
   case c149 => exact pss_nil
   case' c146 => refine' pss_cut ?c173 ?c174
   case' c173 => exact (ps_expr (pe_clr0 (pvF 3)))
   case' c174 => refine' pss_one ?c175
   case' c175 => refine' ps_ret ?c176
   case' c176 => refine' pe_cmpR ?c177 ?c178 ?c179 ?c180
   case c177 => exact op_eqI
   case' c178 => refine' pe_callB call_lenF (by rfl) T.b_len PySem.boot_len ?c181
   case' c181 => refine' pa_cons ?c182 pa_nil
   case' c182 => refine' pe_fn F_rim (hr.mono (by decide)) rfl passE0 ?c183
   case' c183 => exact (pa_cons (pvF 1) pa_nil)
   case' c179 => refine' pe_callB call_lenF (by rfl) T.b_len PySem.boot_len ?c184
   case' c184 => exact (pa_cons (pvF 6) pa_nil)
   case c180 => exact (nomark _)
  case rest =>
   obtain ⟨hS, hl, tb, h⟩ := h
   simp only [L2.start, List.map_cons, List.map_nil, List.length_cons, List.length_nil, Nat.reduceAdd, Nat.reduceSub, List.replicate_succ, List.replicate_zero, List.cons_append, List.nil_append, List.append_nil]
   refine ⟨fun σ H' => ∃ (l : Addr) (qs : List Addr) (rs : List P2), σ = [some (.ref a), some (.ref l), none, none, none, none, none, none] ∧ Ext H H' ∧ LpOk H' l qs rs, ?_, ?_⟩
   ·o_head ⟨extR, sp_spots⟩
    exact ⟨ns, hS, hl, fun l qs rs H' x ok => ⟨x, qs, rs, ok⟩⟩
   rintro σ H1 ⟨l, qs, rs, rfl, x1, ok⟩
   replace tb := x1 _ _ tb
   have lq : (qs.map V.ref).length = rs.length := by rw [List.length_map, ok.at_.1]
   have n12 := ok.n12
   have n0 := ok.n0
   have bs := bsP_of ok.sz
   clear x1 hS hl
   refine ⟨fun σ H' => ∃ (L : Addr) (ts : List Addr), σ = [some (.ref a), some (.ref l), some (.ref L), none, none, none, none, none] ∧ Ext H1 H' ∧ H' L = some (.lst (ts.map V.ref)) ∧ PtAt H' ts rs, ?_, ?_⟩
   ·o_head ⟨extR⟩
    refine tlc_list (K := K) (a := l) (xs := qs.map V.ref) (fun R hR => by o_head ⟨extR⟩; exact hR) (SqL.of ok.sp) (by omega) (fun D i ys H' => ∃ ts : List Addr, ys = ts.map V.ref ∧ ts.length = i ∧ (∀ (k : Nat) (q : Addr), k < i → ts[k]? = some q → H' q = some (.tup [.int (sAt rs k).1, .int (sAt rs k).2, .int 1])) ∧ H' D = some (.lst ys) ∧ Ext H1 H') ?_ ?_ ?_ ?_
    ·intro D hD
     exact ⟨[], rfl, rfl, fun k q hk => absurd hk (Nat.not_lt_zero _), upd_same, .upd hD⟩
    ·rintro D i ys H' hi ⟨ts, rfl, lt, pt, eD, x⟩
     exact ⟨eD, by rw [List.length_map, lt]; exact Nat.le_refl _, SqL.of (x _ _ ok.sp)⟩
    ·rintro D i x ys H' hD hx ⟨ts, rfl, lt, pt, eD, xx⟩
     obtain ⟨q, hq, rfl⟩ := refs_get hx
     have il : i < rs.length := by rw [← lq, List.length_map]; exact (List.getElem?_eq_some_iff.mp hq).1
     have eq := xx _ _ (ok.at_.2 i q _ hq (sAt_get il))
     o_head ⟨extR, gSeqF, gCons, gNil, eq⟩
     refine ⟨by decide, fun p hp => ⟨upd_f hp eD, ts ++ [p], by rw [List.map_append]; rfl, by rw [List.length_append, lt]; rfl, fun k q' hk hq' => ?_, (xx.then hp).set hD⟩⟩
     have pD : p ≠ D := fun e => by
      rw [e, eD] at hp
      cases hp
     by_cases c : k < i
     ·rw [List.getElem?_append_left (by omega)] at hq'
      have e := pt k q' c hq'
      exact (upd_ne (ne_of e eD (by intro z; cases z))).trans (upd_f hp e)
     ·have ek : k = i := by omega
      subst ek
      rw [List.getElem?_append_right (by omega), lt, Nat.sub_self] at hq'
      cases hq'
      exact (upd_ne pD).trans upd_same
    ·rintro D ys H' hD ⟨ts, rfl, lt, pt, eD, xx⟩
     rw [lq] at lt pt
     exact ⟨D, rfl, xx, ts, eD, lt, pt⟩
   rintro σ H2 ⟨L, ts, rfl, x2, eL, pt⟩
   replace ok := ok.ext x2
   replace tb := x2 _ _ tb
   clear x2
   refine ⟨fun σ H' => ∃ (D : Addr) (J : List Nat), σ = [some (.ref a), some (.ref l), some (.ref L), some (.ref D), none, none, none, none] ∧ Ext H2 H' ∧ H2 D = none ∧ H' D = some (.lst (JsV J)) ∧ RimOk (sAt rs) rs.length J, ?_, ?_⟩
   ·o_head ⟨extR, sp_rim⟩
    exact ⟨qs, rs, ok, tb, fun D J H' x nD eD rk => ⟨x, nD, J, eD, rk⟩⟩
   rintro σ H3 ⟨D, J, rfl, x3, nD, eD, rk⟩
   have ok3 := ok.ext x3
   have pt3 := pt.ext x3
   have eL3 := x3 _ _ eL
   have lJ : (JsV J).length = J.length := List.length_map _
   have j0 := rk.pos
   have j24 := rk.len
   have jd : ∀ k, k < J.length → J.getD k 0 < rs.length := fun k hk => by
    rw [List.getD_eq_getElem?_getD, List.getElem?_eq_getElem hk]
    exact rk.lt _ (List.getElem_mem hk)
   have aJ : ∀ k, k < J.length → atI (JsV J) (k : Int) = some (.int ((J.getD k 0 : Nat) : Int)) := fun k hk => atI_nat (by
    unfold JsV
    rw [List.getElem?_map, List.getD_eq_getElem?_getD, List.getElem?_eq_getElem hk]
    rfl)
   refine ⟨fun σ H' => σ = [some (.ref a), some (.ref l), some (.ref L), some (.ref D), none, none, none, none] ∧ H' = H3, ?_, ?_⟩
   ·o_head ⟨extR, eD, lJ⟩
    refine ⟨_, _, _, _, rfl, .lst eD, isi_lst_lst K, ?_⟩
    show (if true = false then _ else optK (seqOf (H3 D)) fun ys => if (ys.length : Int) = 0 then _ else H3 = H3)
    rw [if_neg (by decide), eD, seqOf_l, optK_some, if_neg (by rw [lJ]; omega)]
   rintro σ H4 ⟨rfl, rfl⟩
   refine ⟨fun σ H' => σ = [some (.ref a), some (.ref l), some (.ref L), some (.ref D), none, none, none, none] ∧ Ext H4 H', ?_, ?_⟩
   ·o_head ⟨extR⟩
    refine tlc_range rs.length (fun R hR => by o_head ⟨extR, ok3.sp, lq⟩; exact hR) (by omega) (fun E i ys H' => ys = (List.replicate i true).map V.bl ∧ H' E = some (.lst ys) ∧ Ext H4 H') ?_ ?_ ?_ ?_
    ·intro E hE
     exact ⟨rfl, upd_same, .upd hE⟩
    ·rintro E i ys H5 _ ⟨rfl, e1, x5⟩
     exact ⟨e1, by rw [List.length_map, List.length_replicate]; exact Nat.le_refl _⟩
    ·rintro E i ys H5 hE hi ⟨rfl, e1, x5⟩
     have a0 : atI (JsV J) 0 = some (.int ((J.getD 0 0 : Nat) : Int)) := aJ 0 j0
     obtain ⟨q0, aq0, eq0⟩ := pt3.get (jd 0 j0)
     obtain ⟨qi, aqi, eqi⟩ := pt3.get hi
     o_head ⟨extR, x5 _ _ eD, a0, x5 _ _ eL3, sp_ahead, aqi, aq0⟩
     by_cases c : i = J.getD 0 0
     ·rw [if_pos (by omega)]
      exact ⟨e1, rep_bl i, x5.set hE⟩
     rw [if_neg (by omega), Int.zero_add, aqi]
     refine ⟨qi, rfl, ?_⟩
     rw [x5 _ _ eq0, x5 _ _ eqi]
     dsimp only [tup3]
     have z1 : Bd 2000 1 := by unfold Bd; decide
     refine ⟨⟨(bs _).1.mono (by decide), (bs _).2.mono (by decide), z1⟩, ⟨(bs _).1.mono (by decide), (bs _).2.mono (by decide), z1⟩, e1, ?_⟩
     have lx : Lx (sAt rs (J.getD 0 0)) (sAt rs i) := (rk.least i hi).resolve_left c
     rw [ahead_lx lx]
     exact ⟨rep_bl i, x5.set hE⟩
    ·rintro E ys H5 hE ⟨rfl, e1, x5⟩
     refine ⟨E, _, rfl, SqL.of e1, ?_⟩
     show (if (List.replicate rs.length true).all id = false then _ else _)
     rw [if_neg (by rw [all_rep]; decide)]
     exact x5
   rintro σ H5 ⟨rfl, x5⟩
   refine ⟨fun σ H' => σ = [some (.ref a), some (.ref l), some (.ref L), some (.ref D), none, none, none, none] ∧ Ext H4 H' ∧ 1 < rs.length, ?_, ?_⟩
   ·o_head ⟨extR, x5 _ _ ok3.sp, lq⟩
    by_cases c : rs.length = 1
    ·rw [if_pos (by omega)]
     refine ⟨by decide, fun p hp => ?_⟩
     have eJ := rk.one c
     rw [eJ] at eD
     refine ⟨.list [.int 0], .list [.int 0], .lst (SqL.of (upd_f hp (x5 _ _ eD))) (.cons (.int _) .nil), .lst (SqL.of upd_same) (.cons (.int _) .nil), by decide, by decide, ?_⟩
     rw [show id (PyData.eqv (.list [.int 0]) (.list [.int 0])) = true from by decide]
     exact h _
    ·rw [if_neg (by omega)]
     exact ⟨x5, by omega⟩
   rintro σ H6 ⟨rfl, x6, n1⟩
   refine ⟨fun σ H' => ∃ E, σ = [some (.ref a), some (.ref l), some (.ref L), some (.ref D), some (.ref E), none, none, none] ∧ Ext H4 H' ∧ H4 E = none ∧ H' E = some (.lst []), ?_, ?_⟩
   ·o_head ⟨extR⟩
    exact ⟨by decide, fun E hE => ⟨x6.then hE, x6.none hE⟩⟩
   rintro σ H7 ⟨E, rfl, x7, nE, eE⟩
   refine ⟨fun σ H' => ∃ (us : List Addr) (o5 : Option V), σ = [some (.ref a), some (.ref l), some (.ref L), some (.ref D), some (.ref E), o5, none, none] ∧ Ext H4 H' ∧ H' E = some (.lst (us.map V.ref)) ∧ R2At H' us ((dueL (sAt rs) rs.length rs.length).map cI), ?_, ?_⟩
   ·refine tfor_range rs.length (fun R hR => by o_head ⟨extR, x7 _ _ ok3.sp, lq⟩; exact hR) (by omega) (fun i σ H' => ∃ (us : List Addr) (o5 : Option V), σ = [some (.ref a), some (.ref l), some (.ref L), some (.ref D), some (.ref E), o5, none, none] ∧ Ext H4 H' ∧ H' E = some (.lst (us.map V.ref)) ∧ R2At H' us ((dueL (sAt rs) rs.length i).map cI)) ⟨[], _, rfl, x7, eE, rfl, fun k q z hq => by simp at hq⟩ ?_ ?_
    rotate_left
    ·rintro σ H8 ⟨us, o5, rfl, x8, eE8, ra⟩
     o_head ⟨extR⟩
     exact ⟨x8, us, eE8, ra⟩
    rintro i σ H8 hi ⟨us, o5, rfl, x8, eE8, ra⟩
    o_head ⟨extR, eE8⟩
    have ok8 := ok3.ext x8
    have zl : (dueL (sAt rs) rs.length i).length ≤ 144 := Nat.le_trans (dueL_len _ _ _) (Nat.mul_le_mul (show i ≤ 12 by omega) n12)
    have lus : us.length ≤ 144 := by rw [ra.1, List.length_map]; exact zl
    refine tlc_range rs.length (fun R hR => by o_head ⟨extR, ok8.sp, lq⟩; exact hR) (by omega) (fun G k ys H' => ∃ us' : List Addr, ys = us'.map V.ref ∧ R2At H' us' ((dueR (sAt rs) rs.length i k).map cI) ∧ H' G = some (.lst ys) ∧ Ext H8 H') ?_ ?_ ?_ ?_
    ·intro G hG
     exact ⟨[], rfl, ⟨rfl, fun k q z hq => by simp at hq⟩, upd_same, .upd hG⟩
    ·rintro G k ys H9 hk ⟨us', rfl, r9, eG, x9⟩
     refine ⟨eG, ?_⟩
     rw [List.length_map, r9.1, List.length_map]
     exact dueR_len _ _ _ _
    ·rintro G k ys H9 hG hk ⟨us', rfl, r9, eG, x9⟩
     o_head ⟨extR, sp_isstep, Int.zero_add⟩
     rw [dueR_succ]
     by_cases c : k = i
     ·subst c
      rw [if_neg (show ¬ ¬ ((k : Int) = (k : Int)) from fun g => g rfl), if_neg (fun g => g.1 rfl), List.append_nil]
      exact ⟨us', rfl, r9, eG, x9⟩
     ·rw [if_pos (by omega)]
      refine ⟨i, rfl, k, rfl, ts, (x8.trans x9) _ _ eL3, rs, pt3.ext (x8.trans x9), bs, n12, hi, hk, fun H10 x10 => ?_⟩
      by_cases c2 : Stp (sAt rs) rs.length i k
      ·rw [if_pos c2, if_pos ⟨c, c2⟩]
       refine ⟨by decide, fun p hp => ⟨upd_f hp (x10 _ _ eG), us' ++ [p], by rw [List.map_append]; rfl, ?_, ((x9.trans x10).then hp).set hG⟩⟩
       rw [List.map_append]
       exact R2At.setT (((r9.ext x10).ext (Ext.upd hp)).snocT (z := cI (i, k)) upd_same) (upd_f hp (x10 _ _ eG))
      ·rw [if_neg c2, if_neg (fun g => c2 g.2), List.append_nil]
       exact ⟨us', rfl, r9.ext x10, x10 _ _ eG, x9.trans x10⟩
    ·rintro G ys H9 hG ⟨us', rfl, r9, eG, x9⟩
     have nEG : E ≠ G := ne_of_none eE8 hG
     dsimp only
     rw [x9 _ _ eE8, eG, lstOf_l, lstOf_l, optK_some, optK_some]
     refine ⟨by rw [List.length_map, List.length_map, r9.1, List.length_map]; have := dueR_len (sAt rs) rs.length i rs.length; omega, (x8.trans x9).set nE, us ++ us', ?_, ?_⟩
     ·rw [List.map_append]
      exact upd_same
     ·rw [dueL_succ, List.map_append]
      exact R2At.setT (R2At.app (ra.ext x9) r9) (x9 _ _ eE8)
   rintro σ H8 ⟨us, o5, rfl, x8, eE8, ra⟩
   refine ⟨fun σ H' => ∃ (S : Addr) (ws : List Addr), σ = [some (.ref a), some (.ref l), some (.ref L), some (.ref D), some (.ref E), o5, some (.ref S), none] ∧ Ext H8 H' ∧ H8 S = none ∧ H' S = some (.lst (ws.map V.ref)) ∧ R2At H' ws ((cyc J).map cI), ?_, ?_⟩
   ·o_head ⟨extR⟩
    have eD8 := x8 _ _ eD
    refine tlc_range J.length (fun R hR => by o_head ⟨extR, eD8, lJ⟩; exact hR) (by omega) (fun G k ys H' => ∃ ws : List Addr, ys = ws.map V.ref ∧ R2At H' ws (((cyc J).take k).map cI) ∧ H' G = some (.lst ys) ∧ Ext H8 H') ?_ ?_ ?_ ?_
    ·intro G hG
     exact ⟨[], rfl, ⟨rfl, fun k q z hq => by simp at hq⟩, upd_same, .upd hG⟩
    ·rintro G k ys H9 hk ⟨ws, rfl, r9, eG, x9⟩
     refine ⟨eG, ?_⟩
     rw [List.length_map, r9.1, List.length_map, List.length_take]
     omega
    ·rintro G k ys H9 hG hk ⟨ws, rfl, r9, eG, x9⟩
     have ez : (cyc J)[k]? = some (J.getD (prv J k) 0, J.getD k 0) := by
      unfold cyc
      rw [List.getElem?_map, List.getElem?_range hk]
      rfl
     o_head ⟨extR, gSeqF, gCons, gNil, x9 _ _ eD8, Int.zero_add, prv_at hk, aJ k hk⟩
     refine ⟨by decide, fun p hp => ⟨upd_f hp eG, ws ++ [p], by rw [List.map_append]; rfl, ?_, (x9.then hp).set hG⟩⟩
     rw [List.take_add_one, ez, List.map_append]
     exact R2At.setT ((r9.ext (Ext.upd hp)).snocT (z := cI (J.getD (prv J k) 0, J.getD k 0)) upd_same) (upd_f hp eG)
    ·rintro G ys H9 hG ⟨ws, rfl, r9, eG, x9⟩
     rw [← cyc_len J, List.take_length] at r9
     exact ⟨G, rfl, x9, hG, ws, eG, r9⟩
   rintro σ H9 ⟨S, ws, rfl, x9, nS, eS, rw9⟩
   have lws : ws.length = J.length := by rw [rw9.1, List.length_map, cyc_len]
   refine ⟨fun σ H' => σ = [some (.ref a), some (.ref l), some (.ref L), some (.ref D), some (.ref E), o5, some (.ref S), none] ∧ Ext H9 H', ?_, ?_⟩
   ·o_head ⟨extR⟩
    refine ⟨S, ws.map V.ref, gH H9, 1, rfl, SqL.of eS, by rw [List.length_map]; omega, fun x hx => ?_, fun W q hW hq => ?_⟩
    ·obtain ⟨k, hk⟩ := List.getElem?_of_mem hx
     obtain ⟨p, hp, rfl⟩ := refs_get hk
     have lk := (List.getElem?_eq_some_iff.mp hp).1
     obtain ⟨e1, e2⟩ := at_R2 rw9 (k := k) (by rw [cyc_len]; omega)
     have ep : ws.getD k 0 = p := by rw [List.getD_eq_getElem?_getD, hp]; rfl
     rw [ep] at e2
     have eg : gH H9 (.ref p) = [((((cyc J).getD k (0, 0)).1 : Nat) : Int), ((((cyc J).getD k (0, 0)).2 : Nat) : Int)] := by
      show (match H9 p with | some (.tup [.int a, .int b]) => [a, b] | _ => []) = _
      rw [e2]
     rw [eg]
     exact ⟨rfl, p, rfl, e2⟩
    ·obtain ⟨s1, s2, s3, s4⟩ := sort_R2 rw9 hq
     have ed := cyc_due rk n1 s3 s4
     rw [ed] at s2
     rw [s1]
     have xW := Ext.upd (H := H9) (o := .lst ((q.map fun k => ws.getD k 0).map V.ref)) hW
     refine ⟨.list (((dueL (sAt rs) rs.length rs.length).map cI).map t2d), .list (((dueL (sAt rs) rs.length rs.length).map cI).map t2d), .lst (SqL.of upd_same) (rdy_rs (s2.ext xW)), .lst (SqL.of (xW _ _ (x9 _ _ eE8))) (rdy_rs ((ra.ext x9).ext xW)), shaped_rs _, shaped_rs _, ?_⟩
     rw [eqv_rs]
     exact xW
   rintro σ H10 ⟨rfl, x10⟩
   refine ⟨fun σ H' => ∃ (T' : Addr) (us : List Addr) (ps : List (Nat × Nat)), σ = [some (.ref a), some (.ref l), some (.ref L), some (.ref D), some (.ref E), o5, some (.ref S), some (.ref T')] ∧ Ext H10 H' ∧ H' T' = some (.lst (us.map V.ref)) ∧ R2At H' us (ps.map cI) ∧ TsOk rs rs.length 0 ps, ?_, ?_⟩
   ·o_head ⟨extR, sp_ties⟩
    exact ⟨qs, rs, ok3.ext (x8.trans (x9.trans x10)), fun t ts ps H' x _ e r tk => ⟨x, ts, e, ps, r, tk⟩⟩
   rintro σ H11 ⟨T', us', ps, rfl, x11, eT, rt, tk⟩
   refine ⟨fun σ H' => σ = [some (.ref a), some (.ref l), some (.ref L), some (.ref D), some (.ref E), o5, some (.ref S), some (.ref T')] ∧ Ext H11 H', ?_, ?_⟩
   ·o_head ⟨extR⟩
    have eS11 := (x10.trans x11) _ _ eS
    have rw11 := rw9.ext (x10.trans x11)
    refine tlc_list (K := K) (a := S) (xs := ws.map V.ref) (fun R hR => by o_head ⟨extR⟩; exact hR) (SqL.of eS11) (by rw [List.length_map]; omega) (fun G k ys H' => ys = (List.replicate k true).map V.bl ∧ H' G = some (.lst ys) ∧ Ext H11 H') ?_ ?_ ?_ ?_
    ·intro G hG
     exact ⟨rfl, upd_same, .upd hG⟩
    ·rintro G k ys H12 _ ⟨rfl, e1, x12⟩
     exact ⟨e1, by rw [List.length_map, List.length_replicate]; exact Nat.le_refl _, SqL.of (x12 _ _ eS11)⟩
    ·rintro G k x ys H12 hG hk ⟨rfl, e1, x12⟩
     obtain ⟨p, hp, rfl⟩ := refs_get hk
     have lk : k < (cyc J).length := by rw [cyc_len, ← lws]; exact (List.getElem?_eq_some_iff.mp hp).1
     obtain ⟨_, e2⟩ := at_R2 rw11 lk
     have ep : ws.getD k 0 = p := by rw [List.getD_eq_getElem?_getD, hp]; rfl
     rw [ep] at e2
     have mz : (cyc J).getD k (0, 0) ∈ cyc J := by
      rw [List.getD_eq_getElem?_getD, List.getElem?_eq_getElem lk]
      exact List.getElem_mem lk
     obtain ⟨z, ez⟩ : ∃ z, (cyc J).getD k (0, 0) = z := ⟨_, rfl⟩
     rw [ez] at e2 mz
     obtain ⟨i, j⟩ := z
     obtain ⟨m1, m2, m3, m4⟩ := (rk.mem n1 i j).mp mz
     replace e2 : H11 p = some (.tup [.int (i : Int), .int (j : Int)]) := e2
     o_head ⟨extR, gSeqF, gCons, gNil⟩
     have ij : ∀ {X : Nat → Prop}, (X i ∨ X j) → X i ∨ X j := fun h => h
     have sq2 : SqT K H12 p ([(i : Int), (j : Int)].map V.int) := SqT.of (x12 _ _ e2)
     have ok12 := ok3.ext (x8.trans (x9.trans (x10.trans (x11.trans x12))))
     have tr : ∀ u v, u < v → v < rs.length → TT (sAt rs u) (sAt rs v) rs → (u, v) ∈ ps := fun u v uv vl g => tk.all u v _ _ uv (.inl (by omega)) (sAt_get (by omega)) (sAt_get vl) g
     have nij : sAt rs i ≠ sAt rs j := fun e => m3 (by
      have g1 := sAt_get m1
      have g2 := sAt_get m2
      rw [e] at g1
      obtain ⟨l1, f1⟩ := List.getElem?_eq_some_iff.mp g1
      obtain ⟨l2, f2⟩ := List.getElem?_eq_some_iff.mp g2
      exact (List.getElem_inj ok.nd).mp (f1.trans f2.symm))
     have ttij := stp_tt m1 m2 nij m4
     have got : (min i j, max i j) ∈ ps := by
      by_cases c : i < j
      ·rw [Nat.min_eq_left (by omega), Nat.max_eq_right (by omega)]
       exact tr i j c m2 ttij
      ·rw [Nat.min_eq_right (by omega), Nat.max_eq_left (by omega)]
       exact tr j i (by omega) m1 ttij.symm
     refine ⟨p, _, rfl, sq2, Nat.succ_pos _, fun M hM lM => ⟨p, _, rfl, sq2, Nat.succ_pos _, fun N hN lN => ⟨by decide, fun t ht => ?_⟩⟩⟩
     have l1 := lM (i : Int) (by simp)
     have l2 := lM (j : Int) (by simp)
     have l3 := lN (i : Int) (by simp)
     have l4 := lN (j : Int) (by simp)
     simp only [List.mem_cons, List.not_mem_nil, or_false] at hM hN
     have eM : M = ((min i j : Nat) : Int) := by omega
     have eN : N = ((max i j : Nat) : Int) := by omega
     subst eM eN
     have xt := Ext.upd (H := H12) (o := .tup [.int ((min i j : Nat) : Int), .int ((max i j : Nat) : Int)]) ht
     refine ⟨t2d (cI (min i j, max i j)), (ps.map cI).map t2d, rdy_t2 upd_same, .lst (SqL.of (xt _ _ (x12 _ _ eT))) (rdy_rs ((rt.ext x12).ext xt)), shaped_t2 _, shaped_rs _, ?_, ?_⟩
     ·intro y hy
      obtain ⟨z, _, rfl⟩ := List.mem_map.mp hy
      exact nomix_t2 z _
     ·rw [← any_eqv_countIn _ _ (fun y hy => by obtain ⟨z, _, rfl⟩ := List.mem_map.mp hy; exact nomix_t2 z _)]
      have : ((ps.map cI).map t2d).any (fun y => PyData.eqv y (t2d (cI (min i j, max i j)))) = true := by
       rw [List.any_eq_true]
       refine ⟨t2d (cI (min i j, max i j)), List.mem_map_of_mem (List.mem_map_of_mem got), ?_⟩
       exact (eqv_t2 _ _ _ _).trans (decide_eq_true ⟨rfl, rfl⟩)
      rw [this]
      exact ⟨upd_f ht e1, rep_bl k, (x12.then ht).set hG⟩
    ·rintro G ys H12 hG ⟨rfl, e1, x12⟩
     refine ⟨G, _, rfl, SqL.of e1, ?_⟩
     show (if (List.replicate (ws.map V.ref).length true).all id = false then _ else _)
     rw [if_neg (by rw [all_rep]; decide)]
     exact x12
   rintro σ H12 ⟨rfl, x12⟩
   have x412 := x8.trans (x9.trans (x10.trans (x11.trans x12)))
   have eD12 := x412 _ _ eD
   have eS12 := (x10.trans (x11.trans x12)) _ _ eS
   refine ⟨fun σ H' => σ = [some (.ref a), some (.ref l), some (.ref L), some (.ref D), some (.ref E), o5, some (.ref S), some (.ref T')] ∧ H' = upd H12 D (.lst []), ?_, ?_⟩
   ·o_head ⟨extR⟩
    rw [eD12]
    exact ⟨rfl, trivial⟩
   rintro σ H13 ⟨rfl, rfl⟩
   o_head ⟨extR, sp_rim⟩
   have xD := (x3.trans x412).set (o := .lst []) nD
   have nSD : S ≠ D := (ne_of_none (x8 _ _ eD) nS).symm
   refine ⟨qs, rs, ok.ext xD, xD _ _ tb, fun D' J' H' x _ eD' rk' => ?_⟩
   rw [eD', x _ _ ((upd_ne nSD).trans eS12), seqOf_l, seqOf_l, optK_some, optK_some, JsV_len, List.length_map, lws, rk'.same rk n1, decide_eq_true rfl]
   exact h _
end
end LW
namespace LW
open PySem L2 MA PyProof.Rows
theorem len_1 {us : List Value} (h : us.length = 1) : ∃ u0, us = [u0] := by
 obtain _ | ⟨u0, us⟩ := us
 ·cases h
 cases us with
 | nil => exact ⟨u0, rfl⟩
 | cons a r => simp at h
theorem len_2 {us : List Value} (h : us.length = 2) : ∃ u0 u1, us = [u0, u1] := by
 obtain _ | ⟨u0, us⟩ := us
 ·cases h
 obtain _ | ⟨u1, us⟩ := us
 ·cases h
 cases us with
 | nil => exact ⟨u0, u1, rfl⟩
 | cons a r => simp at h
theorem len_3 {us : List Value} (h : us.length = 3) : ∃ u0 u1 u2, us = [u0, u1, u2] := by
 obtain _ | ⟨u0, us⟩ := us
 ·cases h
 obtain _ | ⟨u1, us⟩ := us
 ·cases h
 obtain _ | ⟨u2, us⟩ := us
 ·cases h
 cases us with
 | nil => exact ⟨u0, u1, u2, rfl⟩
 | cons a r => simp at h
theorem len_4 {us : List Value} (h : us.length = 4) : ∃ u0 u1 u2 u3, us = [u0, u1, u2, u3] := by
 obtain _ | ⟨u0, us⟩ := us
 ·cases h
 obtain _ | ⟨u1, us⟩ := us
 ·cases h
 obtain _ | ⟨u2, us⟩ := us
 ·cases h
 obtain _ | ⟨u3, us⟩ := us
 ·cases h
 cases us with
 | nil => exact ⟨u0, u1, u2, u3, rfl⟩
 | cons a r => simp at h
set_option maxHeartbeats 0 in
theorem all_mk {l : PySem.W.OpenLaw} {w : World} {K : PySem.W.Frag} {h : Heap} {mg : Str → Option Value} {fa : Addr} (X : K.In h) (G : h.Ns mainGlobals mg) (hfa : mg "law" = some (.ref fa))
  {f_divisor : Addr} {od_divisor an_divisor : Option Addr} {sl_divisor : Array (Option Value)} {oc_divisor kV_divisor dc_divisor pm_divisor cd_divisor ct_divisor : Value} {f_sign : Addr} {od_sign an_sign : Option Addr} {sl_sign : Array (Option Value)} {oc_sign kV_sign dc_sign pm_sign cd_sign ct_sign : Value} {f_point_of : Addr} {od_point_of an_point_of : Option Addr} {sl_point_of : Array (Option Value)} {oc_point_of kV_point_of dc_point_of pm_point_of cd_point_of ct_point_of : Value} {f_spot_point : Addr} {od_spot_point an_spot_point : Option Addr} {sl_spot_point : Array (Option Value)} {oc_spot_point kV_spot_point dc_spot_point pm_spot_point cd_spot_point ct_spot_point : Value} {f_fraction_of : Addr} {od_fraction_of an_fraction_of : Option Addr} {sl_fraction_of : Array (Option Value)} {oc_fraction_of kV_fraction_of dc_fraction_of pm_fraction_of cd_fraction_of ct_fraction_of : Value} {f_less : Addr} {od_less an_less : Option Addr} {sl_less : Array (Option Value)} {oc_less kV_less dc_less pm_less cd_less ct_less : Value} {f_ahead : Addr} {od_ahead an_ahead : Option Addr} {sl_ahead : Array (Option Value)} {oc_ahead kV_ahead dc_ahead pm_ahead cd_ahead ct_ahead : Value} {f_turn : Addr} {od_turn an_turn : Option Addr} {sl_turn : Array (Option Value)} {oc_turn kV_turn dc_turn pm_turn cd_turn ct_turn : Value} {f_check_count : Addr} {od_check_count an_check_count : Option Addr} {sl_check_count : Array (Option Value)} {oc_check_count kV_check_count dc_check_count pm_check_count cd_check_count ct_check_count : Value} {f_check_spots : Addr} {od_check_spots an_check_spots : Option Addr} {sl_check_spots : Array (Option Value)} {oc_check_spots kV_check_spots dc_check_spots pm_check_spots cd_check_spots ct_check_spots : Value} {f_by_place : Addr} {od_by_place an_by_place : Option Addr} {sl_by_place : Array (Option Value)} {oc_by_place kV_by_place dc_by_place pm_by_place cd_by_place ct_by_place : Value} {f_lead : Addr} {od_lead an_lead : Option Addr} {sl_lead : Array (Option Value)} {oc_lead kV_lead dc_lead pm_lead cd_lead ct_lead : Value} {f_point_along : Addr} {od_point_along an_point_along : Option Addr} {sl_point_along : Array (Option Value)} {oc_point_along kV_point_along dc_point_along pm_point_along cd_point_along ct_point_along : Value} {f_reach_within : Addr} {od_reach_within an_reach_within : Option Addr} {sl_reach_within : Array (Option Value)} {oc_reach_within kV_reach_within dc_reach_within pm_reach_within cd_reach_within ct_reach_within : Value} {f_reaches : Addr} {od_reaches an_reaches : Option Addr} {sl_reaches : Array (Option Value)} {oc_reaches kV_reaches dc_reaches pm_reaches cd_reaches ct_reaches : Value} {f_ties : Addr} {od_ties an_ties : Option Addr} {sl_ties : Array (Option Value)} {oc_ties kV_ties dc_ties pm_ties cd_ties ct_ties : Value} {f_spot_turn : Addr} {od_spot_turn an_spot_turn : Option Addr} {sl_spot_turn : Array (Option Value)} {oc_spot_turn kV_spot_turn dc_spot_turn pm_spot_turn cd_spot_turn ct_spot_turn : Value} {f_outer_way : Addr} {od_outer_way an_outer_way : Option Addr} {sl_outer_way : Array (Option Value)} {oc_outer_way kV_outer_way dc_outer_way pm_outer_way cd_outer_way ct_outer_way : Value} {f_rim : Addr} {od_rim an_rim : Option Addr} {sl_rim : Array (Option Value)} {oc_rim kV_rim dc_rim pm_rim cd_rim ct_rim : Value} {f__law_feed : Addr} {od__law_feed an__law_feed : Option Addr} {sl__law_feed : Array (Option Value)} {oc__law_feed kV__law_feed dc__law_feed pm__law_feed cd__law_feed ct__law_feed : Value} {f__law_next : Addr} {od__law_next an__law_next : Option Addr} {sl__law_next : Array (Option Value)} {oc__law_next kV__law_next dc__law_next pm__law_next cd__law_next ct__law_next : Value} {f__law_great : Addr} {od__law_great an__law_great : Option Addr} {sl__law_great : Array (Option Value)} {oc__law_great kV__law_great dc__law_great pm__law_great cd__law_great ct__law_great : Value} {f__law_spot : Addr} {od__law_spot an__law_spot : Option Addr} {sl__law_spot : Array (Option Value)} {oc__law_spot kV__law_spot dc__law_spot pm__law_spot cd__law_spot ct__law_spot : Value} {f__law_spots : Addr} {od__law_spots an__law_spots : Option Addr} {sl__law_spots : Array (Option Value)} {oc__law_spots kV__law_spots dc__law_spots pm__law_spots cd__law_spots ct__law_spots : Value} {f__law_between : Addr} {od__law_between an__law_between : Option Addr} {sl__law_between : Array (Option Value)} {oc__law_between kV__law_between dc__law_between pm__law_between cd__law_between ct__law_between : Value} {f__law_is_step : Addr} {od__law_is_step an__law_is_step : Option Addr} {sl__law_is_step : Array (Option Value)} {oc__law_is_step kV__law_is_step dc__law_is_step pm__law_is_step cd__law_is_step ct__law_is_step : Value} {f_law : Addr} {od_law an_law : Option Addr} {sl_law : Array (Option Value)} {oc_law kV_law dc_law pm_law cd_law ct_law : Value}   {tk_MOST_SPOTS : Tok} {cda_by_place tp_by_place : Addr} {cod_by_place : Option Addr} {cvs_by_place : Array Value} {csl_by_place : Array (Option Value)} {cfi_by_place : Str} {cft_by_place cfg_by_place ctt_by_place : Tok} {cfl_by_place ctx_by_place : Int} {cif_by_place : Bool}
  (a_divisor : PySem.W.nsIn K mainGlobals "divisor" = some (some (.ref f_divisor)))
  (l_divisor : K.lookup f_divisor = some ⟨oc_divisor, od_divisor, .func (PySem.W.fnOf "divisor" "divisor" (defArgs s_divisor) (defBody s_divisor) (defScope s_divisor) .none kV_divisor dc_divisor pm_divisor an_divisor cd_divisor ct_divisor), sl_divisor⟩)
  (c_divisor : PySem.W.codeIn K cd_divisor "divisor" = true)
  (k_divisor : PySem.W.keepIn K (.ref f_divisor) = true)
  (a_sign : PySem.W.nsIn K mainGlobals "sign" = some (some (.ref f_sign)))
  (l_sign : K.lookup f_sign = some ⟨oc_sign, od_sign, .func (PySem.W.fnOf "sign" "sign" (defArgs s_sign) (defBody s_sign) (defScope s_sign) .none kV_sign dc_sign pm_sign an_sign cd_sign ct_sign), sl_sign⟩)
  (c_sign : PySem.W.codeIn K cd_sign "sign" = true)
  (k_sign : PySem.W.keepIn K (.ref f_sign) = true)
  (a_point_of : PySem.W.nsIn K mainGlobals "point_of" = some (some (.ref f_point_of)))
  (l_point_of : K.lookup f_point_of = some ⟨oc_point_of, od_point_of, .func (PySem.W.fnOf "point_of" "point_of" (defArgs s_point_of) (defBody s_point_of) (defScope s_point_of) .none kV_point_of dc_point_of pm_point_of an_point_of cd_point_of ct_point_of), sl_point_of⟩)
  (c_point_of : PySem.W.codeIn K cd_point_of "point_of" = true)
  (k_point_of : PySem.W.keepIn K (.ref f_point_of) = true)
  (a_spot_point : PySem.W.nsIn K mainGlobals "spot_point" = some (some (.ref f_spot_point)))
  (l_spot_point : K.lookup f_spot_point = some ⟨oc_spot_point, od_spot_point, .func (PySem.W.fnOf "spot_point" "spot_point" (defArgs s_spot_point) (defBody s_spot_point) (defScope s_spot_point) .none kV_spot_point dc_spot_point pm_spot_point an_spot_point cd_spot_point ct_spot_point), sl_spot_point⟩)
  (c_spot_point : PySem.W.codeIn K cd_spot_point "spot_point" = true)
  (k_spot_point : PySem.W.keepIn K (.ref f_spot_point) = true)
  (a_fraction_of : PySem.W.nsIn K mainGlobals "fraction_of" = some (some (.ref f_fraction_of)))
  (l_fraction_of : K.lookup f_fraction_of = some ⟨oc_fraction_of, od_fraction_of, .func (PySem.W.fnOf "fraction_of" "fraction_of" (defArgs s_fraction_of) (defBody s_fraction_of) (defScope s_fraction_of) .none kV_fraction_of dc_fraction_of pm_fraction_of an_fraction_of cd_fraction_of ct_fraction_of), sl_fraction_of⟩)
  (c_fraction_of : PySem.W.codeIn K cd_fraction_of "fraction_of" = true)
  (k_fraction_of : PySem.W.keepIn K (.ref f_fraction_of) = true)
  (a_less : PySem.W.nsIn K mainGlobals "less" = some (some (.ref f_less)))
  (l_less : K.lookup f_less = some ⟨oc_less, od_less, .func (PySem.W.fnOf "less" "less" (defArgs s_less) (defBody s_less) (defScope s_less) .none kV_less dc_less pm_less an_less cd_less ct_less), sl_less⟩)
  (c_less : PySem.W.codeIn K cd_less "less" = true)
  (k_less : PySem.W.keepIn K (.ref f_less) = true)
  (a_ahead : PySem.W.nsIn K mainGlobals "ahead" = some (some (.ref f_ahead)))
  (l_ahead : K.lookup f_ahead = some ⟨oc_ahead, od_ahead, .func (PySem.W.fnOf "ahead" "ahead" (defArgs s_ahead) (defBody s_ahead) (defScope s_ahead) .none kV_ahead dc_ahead pm_ahead an_ahead cd_ahead ct_ahead), sl_ahead⟩)
  (c_ahead : PySem.W.codeIn K cd_ahead "ahead" = true)
  (k_ahead : PySem.W.keepIn K (.ref f_ahead) = true)
  (a_turn : PySem.W.nsIn K mainGlobals "turn" = some (some (.ref f_turn)))
  (l_turn : K.lookup f_turn = some ⟨oc_turn, od_turn, .func (PySem.W.fnOf "turn" "turn" (defArgs s_turn) (defBody s_turn) (defScope s_turn) .none kV_turn dc_turn pm_turn an_turn cd_turn ct_turn), sl_turn⟩)
  (c_turn : PySem.W.codeIn K cd_turn "turn" = true)
  (k_turn : PySem.W.keepIn K (.ref f_turn) = true)
  (a_check_count : PySem.W.nsIn K mainGlobals "check_count" = some (some (.ref f_check_count)))
  (l_check_count : K.lookup f_check_count = some ⟨oc_check_count, od_check_count, .func (PySem.W.fnOf "check_count" "check_count" (defArgs s_check_count) (defBody s_check_count) (defScope s_check_count) .none kV_check_count dc_check_count pm_check_count an_check_count cd_check_count ct_check_count), sl_check_count⟩)
  (c_check_count : PySem.W.codeIn K cd_check_count "check_count" = true)
  (k_check_count : PySem.W.keepIn K (.ref f_check_count) = true)
  (a_check_spots : PySem.W.nsIn K mainGlobals "check_spots" = some (some (.ref f_check_spots)))
  (l_check_spots : K.lookup f_check_spots = some ⟨oc_check_spots, od_check_spots, .func (PySem.W.fnOf "check_spots" "check_spots" (defArgs s_check_spots) (defBody s_check_spots) (defScope s_check_spots) .none kV_check_spots dc_check_spots pm_check_spots an_check_spots cd_check_spots ct_check_spots), sl_check_spots⟩)
  (c_check_spots : PySem.W.codeIn K cd_check_spots "check_spots" = true)
  (k_check_spots : PySem.W.keepIn K (.ref f_check_spots) = true)
  (a_by_place : PySem.W.nsIn K mainGlobals "by_place" = some (some (.ref f_by_place)))
  (l_by_place : K.lookup f_by_place = some ⟨oc_by_place, od_by_place, .func (PySem.W.fnOf "by_place" "by_place" (defArgs s_by_place) (defBody s_by_place) (defScope s_by_place) .none kV_by_place dc_by_place pm_by_place an_by_place cd_by_place ct_by_place), sl_by_place⟩)
  (c_by_place : PySem.W.codeIn K cd_by_place "by_place" = true)
  (k_by_place : PySem.W.keepIn K (.ref f_by_place) = true)
  (a_lead : PySem.W.nsIn K mainGlobals "lead" = some (some (.ref f_lead)))
  (l_lead : K.lookup f_lead = some ⟨oc_lead, od_lead, .func (PySem.W.fnOf "lead" "lead" (defArgs s_lead) (defBody s_lead) (defScope s_lead) .none kV_lead dc_lead pm_lead an_lead cd_lead ct_lead), sl_lead⟩)
  (c_lead : PySem.W.codeIn K cd_lead "lead" = true)
  (k_lead : PySem.W.keepIn K (.ref f_lead) = true)
  (a_point_along : PySem.W.nsIn K mainGlobals "point_along" = some (some (.ref f_point_along)))
  (l_point_along : K.lookup f_point_along = some ⟨oc_point_along, od_point_along, .func (PySem.W.fnOf "point_along" "point_along" (defArgs s_point_along) (defBody s_point_along) (defScope s_point_along) .none kV_point_along dc_point_along pm_point_along an_point_along cd_point_along ct_point_along), sl_point_along⟩)
  (c_point_along : PySem.W.codeIn K cd_point_along "point_along" = true)
  (k_point_along : PySem.W.keepIn K (.ref f_point_along) = true)
  (a_reach_within : PySem.W.nsIn K mainGlobals "reach_within" = some (some (.ref f_reach_within)))
  (l_reach_within : K.lookup f_reach_within = some ⟨oc_reach_within, od_reach_within, .func (PySem.W.fnOf "reach_within" "reach_within" (defArgs s_reach_within) (defBody s_reach_within) (defScope s_reach_within) .none kV_reach_within dc_reach_within pm_reach_within an_reach_within cd_reach_within ct_reach_within), sl_reach_within⟩)
  (c_reach_within : PySem.W.codeIn K cd_reach_within "reach_within" = true)
  (k_reach_within : PySem.W.keepIn K (.ref f_reach_within) = true)
  (a_reaches : PySem.W.nsIn K mainGlobals "reaches" = some (some (.ref f_reaches)))
  (l_reaches : K.lookup f_reaches = some ⟨oc_reaches, od_reaches, .func (PySem.W.fnOf "reaches" "reaches" (defArgs s_reaches) (defBody s_reaches) (defScope s_reaches) .none kV_reaches dc_reaches pm_reaches an_reaches cd_reaches ct_reaches), sl_reaches⟩)
  (c_reaches : PySem.W.codeIn K cd_reaches "reaches" = true)
  (k_reaches : PySem.W.keepIn K (.ref f_reaches) = true)
  (a_ties : PySem.W.nsIn K mainGlobals "ties" = some (some (.ref f_ties)))
  (l_ties : K.lookup f_ties = some ⟨oc_ties, od_ties, .func (PySem.W.fnOf "ties" "ties" (defArgs s_ties) (defBody s_ties) (defScope s_ties) .none kV_ties dc_ties pm_ties an_ties cd_ties ct_ties), sl_ties⟩)
  (c_ties : PySem.W.codeIn K cd_ties "ties" = true)
  (k_ties : PySem.W.keepIn K (.ref f_ties) = true)
  (a_spot_turn : PySem.W.nsIn K mainGlobals "spot_turn" = some (some (.ref f_spot_turn)))
  (l_spot_turn : K.lookup f_spot_turn = some ⟨oc_spot_turn, od_spot_turn, .func (PySem.W.fnOf "spot_turn" "spot_turn" (defArgs s_spot_turn) (defBody s_spot_turn) (defScope s_spot_turn) .none kV_spot_turn dc_spot_turn pm_spot_turn an_spot_turn cd_spot_turn ct_spot_turn), sl_spot_turn⟩)
  (c_spot_turn : PySem.W.codeIn K cd_spot_turn "spot_turn" = true)
  (k_spot_turn : PySem.W.keepIn K (.ref f_spot_turn) = true)
  (a_outer_way : PySem.W.nsIn K mainGlobals "outer_way" = some (some (.ref f_outer_way)))
  (l_outer_way : K.lookup f_outer_way = some ⟨oc_outer_way, od_outer_way, .func (PySem.W.fnOf "outer_way" "outer_way" (defArgs s_outer_way) (defBody s_outer_way) (defScope s_outer_way) .none kV_outer_way dc_outer_way pm_outer_way an_outer_way cd_outer_way ct_outer_way), sl_outer_way⟩)
  (c_outer_way : PySem.W.codeIn K cd_outer_way "outer_way" = true)
  (k_outer_way : PySem.W.keepIn K (.ref f_outer_way) = true)
  (a_rim : PySem.W.nsIn K mainGlobals "rim" = some (some (.ref f_rim)))
  (l_rim : K.lookup f_rim = some ⟨oc_rim, od_rim, .func (PySem.W.fnOf "rim" "rim" (defArgs s_rim) (defBody s_rim) (defScope s_rim) .none kV_rim dc_rim pm_rim an_rim cd_rim ct_rim), sl_rim⟩)
  (c_rim : PySem.W.codeIn K cd_rim "rim" = true)
  (k_rim : PySem.W.keepIn K (.ref f_rim) = true)
  (a__law_feed : PySem.W.nsIn K mainGlobals "_law_feed" = some (some (.ref f__law_feed)))
  (l__law_feed : K.lookup f__law_feed = some ⟨oc__law_feed, od__law_feed, .func (PySem.W.fnOf "_law_feed" "_law_feed" (defArgs s__law_feed) (defBody s__law_feed) (defScope s__law_feed) .none kV__law_feed dc__law_feed pm__law_feed an__law_feed cd__law_feed ct__law_feed), sl__law_feed⟩)
  (c__law_feed : PySem.W.codeIn K cd__law_feed "_law_feed" = true)
  (k__law_feed : PySem.W.keepIn K (.ref f__law_feed) = true)
  (a__law_next : PySem.W.nsIn K mainGlobals "_law_next" = some (some (.ref f__law_next)))
  (l__law_next : K.lookup f__law_next = some ⟨oc__law_next, od__law_next, .func (PySem.W.fnOf "_law_next" "_law_next" (defArgs s__law_next) (defBody s__law_next) (defScope s__law_next) .none kV__law_next dc__law_next pm__law_next an__law_next cd__law_next ct__law_next), sl__law_next⟩)
  (c__law_next : PySem.W.codeIn K cd__law_next "_law_next" = true)
  (k__law_next : PySem.W.keepIn K (.ref f__law_next) = true)
  (a__law_great : PySem.W.nsIn K mainGlobals "_law_great" = some (some (.ref f__law_great)))
  (l__law_great : K.lookup f__law_great = some ⟨oc__law_great, od__law_great, .func (PySem.W.fnOf "_law_great" "_law_great" (defArgs s__law_great) (defBody s__law_great) (defScope s__law_great) .none kV__law_great dc__law_great pm__law_great an__law_great cd__law_great ct__law_great), sl__law_great⟩)
  (c__law_great : PySem.W.codeIn K cd__law_great "_law_great" = true)
  (k__law_great : PySem.W.keepIn K (.ref f__law_great) = true)
  (a__law_spot : PySem.W.nsIn K mainGlobals "_law_spot" = some (some (.ref f__law_spot)))
  (l__law_spot : K.lookup f__law_spot = some ⟨oc__law_spot, od__law_spot, .func (PySem.W.fnOf "_law_spot" "_law_spot" (defArgs s__law_spot) (defBody s__law_spot) (defScope s__law_spot) .none kV__law_spot dc__law_spot pm__law_spot an__law_spot cd__law_spot ct__law_spot), sl__law_spot⟩)
  (c__law_spot : PySem.W.codeIn K cd__law_spot "_law_spot" = true)
  (k__law_spot : PySem.W.keepIn K (.ref f__law_spot) = true)
  (a__law_spots : PySem.W.nsIn K mainGlobals "_law_spots" = some (some (.ref f__law_spots)))
  (l__law_spots : K.lookup f__law_spots = some ⟨oc__law_spots, od__law_spots, .func (PySem.W.fnOf "_law_spots" "_law_spots" (defArgs s__law_spots) (defBody s__law_spots) (defScope s__law_spots) .none kV__law_spots dc__law_spots pm__law_spots an__law_spots cd__law_spots ct__law_spots), sl__law_spots⟩)
  (c__law_spots : PySem.W.codeIn K cd__law_spots "_law_spots" = true)
  (k__law_spots : PySem.W.keepIn K (.ref f__law_spots) = true)
  (a__law_between : PySem.W.nsIn K mainGlobals "_law_between" = some (some (.ref f__law_between)))
  (l__law_between : K.lookup f__law_between = some ⟨oc__law_between, od__law_between, .func (PySem.W.fnOf "_law_between" "_law_between" (defArgs s__law_between) (defBody s__law_between) (defScope s__law_between) .none kV__law_between dc__law_between pm__law_between an__law_between cd__law_between ct__law_between), sl__law_between⟩)
  (c__law_between : PySem.W.codeIn K cd__law_between "_law_between" = true)
  (k__law_between : PySem.W.keepIn K (.ref f__law_between) = true)
  (a__law_is_step : PySem.W.nsIn K mainGlobals "_law_is_step" = some (some (.ref f__law_is_step)))
  (l__law_is_step : K.lookup f__law_is_step = some ⟨oc__law_is_step, od__law_is_step, .func (PySem.W.fnOf "_law_is_step" "_law_is_step" (defArgs s__law_is_step) (defBody s__law_is_step) (defScope s__law_is_step) .none kV__law_is_step dc__law_is_step pm__law_is_step an__law_is_step cd__law_is_step ct__law_is_step), sl__law_is_step⟩)
  (c__law_is_step : PySem.W.codeIn K cd__law_is_step "_law_is_step" = true)
  (k__law_is_step : PySem.W.keepIn K (.ref f__law_is_step) = true)
  (a_law : PySem.W.nsIn K mainGlobals "law" = some (some (.ref f_law)))
  (l_law : K.lookup f_law = some ⟨oc_law, od_law, .func (PySem.W.fnOf "law" "law" (defArgs s_law) (defBody s_law) (defScope s_law) .none kV_law dc_law pm_law an_law cd_law ct_law), sl_law⟩)
  (c_law : PySem.W.codeIn K cd_law "law" = true)
  (k_law : PySem.W.keepIn K (.ref f_law) = true)
  (z_abs : PySem.W.nsIn K mainGlobals "abs" = some none)
  (z_all : PySem.W.nsIn K mainGlobals "all" = some none)
  (z_enumerate : PySem.W.nsIn K mainGlobals "enumerate" = some none)
  (z_isinstance : PySem.W.nsIn K mainGlobals "isinstance" = some none)
  (z_len : PySem.W.nsIn K mainGlobals "len" = some none)
  (z_list : PySem.W.nsIn K mainGlobals "list" = some none)
  (z_max : PySem.W.nsIn K mainGlobals "max" = some none)
  (z_min : PySem.W.nsIn K mainGlobals "min" = some none)
  (z_range : PySem.W.nsIn K mainGlobals "range" = some none)
  (z_sorted : PySem.W.nsIn K mainGlobals "sorted" = some none)
  (a_MOST_SPOTS : PySem.W.nsIn K mainGlobals "MOST_SPOTS" = some (some (.int 12 tk_MOST_SPOTS)))
  (t0_by_place : cd_by_place = .ref cda_by_place) (t1_by_place : K.lookup cda_by_place = some ⟨.type "code", cod_by_place, .fields cvs_by_place, csl_by_place⟩) (t2_by_place : cvs_by_place[11]? = some (.ref tp_by_place)) (t3_by_place : cvs_by_place.getD 11 .none = .ref tp_by_place) (t4_by_place : cvs_by_place.getD 18 .none = .str cfi_by_place cft_by_place) (t5_by_place : cvs_by_place.getD 7 .none = .int cfl_by_place cfg_by_place) (t6_by_place : cvs_by_place.getD 9 .none = .bool cif_by_place) (t7_by_place : cvs_by_place.getD 10 .none = .int ctx_by_place ctt_by_place) (t8_by_place : cda_by_place ≠ tp_by_place) (t9_by_place : K.lookup tp_by_place = none) :
  (∀ z ∈ [(tp_by_place, tg_by_place)], ∃ (y : Str) (f c : Addr), y ∈ (["by_place"] : List Str) ∧ TabK K y f c z.1) ∧ ∃ fd : FuncData, (∀ (s : Shared) (v : Value), BindsTo s fd ⟨[v], []⟩ [("_law_script", v)]) ∧ ∀ base : Heap, K.In base → base.Ns mainGlobals mg → BaseT mg base [(tp_by_place, tg_by_place)] → FnOk l.prog w K mg base (CXE l.prog w) 7 fa fd ["_law_script"] (sp_law K tp_by_place) := by
 have e := hfa.symm.trans (PySem.W.mg_of X G a_law)
 cases e
 have T : Txt K mg ⟨cda_by_place, tp_by_place⟩ := ⟨PySem.W.mg_none_of X G z_abs, PySem.W.mg_none_of X G z_all, PySem.W.mg_none_of X G z_enumerate, PySem.W.mg_none_of X G z_isinstance, PySem.W.mg_none_of X G z_len, PySem.W.mg_none_of X G z_list, PySem.W.mg_none_of X G z_max, PySem.W.mg_none_of X G z_min, PySem.W.mg_none_of X G z_range, PySem.W.mg_none_of X G z_sorted, ⟨_, PySem.W.mg_of X G a_MOST_SPOTS⟩⟩
 have U_divisor := fun_mk (st := s_divisor) l_divisor c_divisor k_divisor
 have B_divisor := U_divisor.binds (ps := ["one", "other"]) fun _ _ _ _ _ _ us hl => by obtain ⟨u0, u1, rfl⟩ := len_2 hl; rfl
 have U_sign := fun_mk (st := s_sign) l_sign c_sign k_sign
 have B_sign := U_sign.binds (ps := ["number"]) fun _ _ _ _ _ _ us hl => by obtain ⟨u0, rfl⟩ := len_1 hl; rfl
 have U_point_of := fun_mk (st := s_point_of) l_point_of c_point_of k_point_of
 have B_point_of := U_point_of.binds (ps := ["x", "y", "w"]) fun _ _ _ _ _ _ us hl => by obtain ⟨u0, u1, u2, rfl⟩ := len_3 hl; rfl
 have U_spot_point := fun_mk (st := s_spot_point) l_spot_point c_spot_point k_spot_point
 have B_spot_point := U_spot_point.binds (ps := ["spot"]) fun _ _ _ _ _ _ us hl => by obtain ⟨u0, rfl⟩ := len_1 hl; rfl
 have U_fraction_of := fun_mk (st := s_fraction_of) l_fraction_of c_fraction_of k_fraction_of
 have B_fraction_of := U_fraction_of.binds (ps := ["top", "bottom"]) fun _ _ _ _ _ _ us hl => by obtain ⟨u0, u1, rfl⟩ := len_2 hl; rfl
 have U_less := fun_mk (st := s_less) l_less c_less k_less
 have B_less := U_less.binds (ps := ["one", "other"]) fun _ _ _ _ _ _ us hl => by obtain ⟨u0, u1, rfl⟩ := len_2 hl; rfl
 have U_ahead := fun_mk (st := s_ahead) l_ahead c_ahead k_ahead
 have B_ahead := U_ahead.binds (ps := ["one", "other"]) fun _ _ _ _ _ _ us hl => by obtain ⟨u0, u1, rfl⟩ := len_2 hl; rfl
 have U_turn := fun_mk (st := s_turn) l_turn c_turn k_turn
 have B_turn := U_turn.binds (ps := ["one", "other", "third"]) fun _ _ _ _ _ _ us hl => by obtain ⟨u0, u1, u2, rfl⟩ := len_3 hl; rfl
 have U_check_count := fun_mk (st := s_check_count) l_check_count c_check_count k_check_count
 have B_check_count := U_check_count.binds (ps := ["spots"]) fun _ _ _ _ _ _ us hl => by obtain ⟨u0, rfl⟩ := len_1 hl; rfl
 have U_check_spots := fun_mk (st := s_check_spots) l_check_spots c_check_spots k_check_spots
 have B_check_spots := U_check_spots.binds (ps := ["spots"]) fun _ _ _ _ _ _ us hl => by obtain ⟨u0, rfl⟩ := len_1 hl; rfl
 have U_by_place := fun_mk (st := s_by_place) l_by_place c_by_place k_by_place
 have B_by_place := U_by_place.binds (ps := ["spots"]) fun _ _ _ _ _ _ us hl => by obtain ⟨u0, rfl⟩ := len_1 hl; rfl
 have U_lead := fun_mk (st := s_lead) l_lead c_lead k_lead
 have B_lead := U_lead.binds (ps := ["first", "second", "third"]) fun _ _ _ _ _ _ us hl => by obtain ⟨u0, u1, u2, rfl⟩ := len_3 hl; rfl
 have U_point_along := fun_mk (st := s_point_along) l_point_along c_point_along k_point_along
 have B_point_along := U_point_along.binds (ps := ["first", "second", "place"]) fun _ _ _ _ _ _ us hl => by obtain ⟨u0, u1, u2, rfl⟩ := len_3 hl; rfl
 have U_reach_within := fun_mk (st := s_reach_within) l_reach_within c_reach_within k_reach_within
 have B_reach_within := U_reach_within.binds (ps := ["spots", "one", "other"]) fun _ _ _ _ _ _ us hl => by obtain ⟨u0, u1, u2, rfl⟩ := len_3 hl; rfl
 have U_reaches := fun_mk (st := s_reaches) l_reaches c_reaches k_reaches
 have B_reaches := U_reaches.binds (ps := ["spots"]) fun _ _ _ _ _ _ us hl => by obtain ⟨u0, rfl⟩ := len_1 hl; rfl
 have U_ties := fun_mk (st := s_ties) l_ties c_ties k_ties
 have B_ties := U_ties.binds (ps := ["spots"]) fun _ _ _ _ _ _ us hl => by obtain ⟨u0, rfl⟩ := len_1 hl; rfl
 have U_spot_turn := fun_mk (st := s_spot_turn) l_spot_turn c_spot_turn k_spot_turn
 have B_spot_turn := U_spot_turn.binds (ps := ["spots", "one", "other", "third"]) fun _ _ _ _ _ _ us hl => by obtain ⟨u0, u1, u2, u3, rfl⟩ := len_4 hl; rfl
 have U_outer_way := fun_mk (st := s_outer_way) l_outer_way c_outer_way k_outer_way
 have B_outer_way := U_outer_way.binds (ps := ["spots", "order"]) fun _ _ _ _ _ _ us hl => by obtain ⟨u0, u1, rfl⟩ := len_2 hl; rfl
 have U_rim := fun_mk (st := s_rim) l_rim c_rim k_rim
 have B_rim := U_rim.binds (ps := ["spots"]) fun _ _ _ _ _ _ us hl => by obtain ⟨u0, rfl⟩ := len_1 hl; rfl
 have U__law_feed := fun_mk (st := s__law_feed) l__law_feed c__law_feed k__law_feed
 have B__law_feed := U__law_feed.binds (ps := ["_law_script", "_law_k"]) fun _ _ _ _ _ _ us hl => by obtain ⟨u0, u1, rfl⟩ := len_2 hl; rfl
 have U__law_next := fun_mk (st := s__law_next) l__law_next c__law_next k__law_next
 have B__law_next := U__law_next.binds (ps := ["_law_feed_here", "_law_many"]) fun _ _ _ _ _ _ us hl => by obtain ⟨u0, u1, rfl⟩ := len_2 hl; rfl
 have U__law_great := fun_mk (st := s__law_great) l__law_great c__law_great k__law_great
 have B__law_great := U__law_great.binds (ps := ["_law_feed_here", "_law_far"]) fun _ _ _ _ _ _ us hl => by obtain ⟨u0, u1, rfl⟩ := len_2 hl; rfl
 have U__law_spot := fun_mk (st := s__law_spot) l__law_spot c__law_spot k__law_spot
 have B__law_spot := U__law_spot.binds (ps := ["_law_feed_here", "_law_style"]) fun _ _ _ _ _ _ us hl => by obtain ⟨u0, u1, rfl⟩ := len_2 hl; rfl
 have U__law_spots := fun_mk (st := s__law_spots) l__law_spots c__law_spots k__law_spots
 have B__law_spots := U__law_spots.binds (ps := ["_law_script"]) fun _ _ _ _ _ _ us hl => by obtain ⟨u0, rfl⟩ := len_1 hl; rfl
 have U__law_between := fun_mk (st := s__law_between) l__law_between c__law_between k__law_between
 have B__law_between := U__law_between.binds (ps := ["_law_one", "_law_other", "_law_third"]) fun _ _ _ _ _ _ us hl => by obtain ⟨u0, u1, u2, rfl⟩ := len_3 hl; rfl
 have U__law_is_step := fun_mk (st := s__law_is_step) l__law_is_step c__law_is_step k__law_is_step
 have B__law_is_step := U__law_is_step.binds (ps := ["_law_points", "_law_i", "_law_j"]) fun _ _ _ _ _ _ us hl => by obtain ⟨u0, u1, u2, rfl⟩ := len_3 hl; rfl
 have U_law := fun_mk (st := s_law) l_law c_law k_law
 have TK_by_place : TabK K "by_place" f_by_place cda_by_place tp_by_place := ⟨a_by_place, ⟨_, _, _, _, l_by_place, t0_by_place⟩, ⟨_, _, _, _, _, _, _, _, _, t1_by_place, rfl, rfl, t2_by_place, t3_by_place, t4_by_place, t5_by_place, t6_by_place, t7_by_place⟩, t8_by_place, t9_by_place⟩
 refine ⟨fun z hz => ?_, ?_⟩
 ·simp only [List.mem_cons, List.not_mem_nil, or_false] at hz
  subst hz
  exact ⟨_, _, _, by simp, TK_by_place⟩
 refine ⟨PySem.W.fnOf "law" "law" (defArgs s_law) (defBody s_law) (defScope s_law) .none kV_law dc_law pm_law an_law cd_law ct_law, fun s v => .of_eq rfl, fun base X1 G1 B1 => ?_⟩
 have F_divisor : FnB l.prog w K mg base (CXE l.prog w) 1 "divisor" ["one", "other"] sp_divisor := .of (ok_divisor U_divisor T ) (PySem.W.mg_of X G a_divisor) k_divisor B_divisor
 have F_sign : FnB l.prog w K mg base (CXE l.prog w) 1 "sign" ["number"] sp_sign := .of (ok_sign U_sign T ) (PySem.W.mg_of X G a_sign) k_sign B_sign
 have F_point_of : FnB l.prog w K mg base (CXE l.prog w) 2 "point_of" ["x", "y", "w"] sp_point_of := .of (ok_point_of U_point_of T F_divisor F_sign) (PySem.W.mg_of X G a_point_of) k_point_of B_point_of
 have F_spot_point : FnB l.prog w K mg base (CXE l.prog w) 1 "spot_point" ["spot"] sp_spot_point := .of (ok_spot_point U_spot_point T ) (PySem.W.mg_of X G a_spot_point) k_spot_point B_spot_point
 have F_fraction_of : FnB l.prog w K mg base (CXE l.prog w) 2 "fraction_of" ["top", "bottom"] sp_fraction_of := .of (ok_fraction_of U_fraction_of T F_divisor F_sign) (PySem.W.mg_of X G a_fraction_of) k_fraction_of B_fraction_of
 have F_less : FnB l.prog w K mg base (CXE l.prog w) 1 "less" ["one", "other"] sp_less := .of (ok_less U_less T ) (PySem.W.mg_of X G a_less) k_less B_less
 have F_ahead : FnB l.prog w K mg base (CXE l.prog w) 1 "ahead" ["one", "other"] sp_ahead := .of (ok_ahead U_ahead T ) (PySem.W.mg_of X G a_ahead) k_ahead B_ahead
 have F_turn : FnB l.prog w K mg base (CXE l.prog w) 2 "turn" ["one", "other", "third"] sp_turn := .of (ok_turn U_turn T F_sign) (PySem.W.mg_of X G a_turn) k_turn B_turn
 have F_check_count : FnB l.prog w K mg base (CXE l.prog w) 1 "check_count" ["spots"] sp_check_count := .of (ok_check_count U_check_count T ) (PySem.W.mg_of X G a_check_count) k_check_count B_check_count
 have F_check_spots : FnB l.prog w K mg base (CXE l.prog w) 2 "check_spots" ["spots"] (sp_cs K) := .of (ok_check_spots U_check_spots T F_check_count) (PySem.W.mg_of X G a_check_spots) k_check_spots B_check_spots
 have F_by_place : FnB l.prog w K mg base (CXE l.prog w) 2 "by_place" ["spots"] (sp_place K ⟨cda_by_place, tp_by_place⟩) := .of (ok_by_place U_by_place T TK_by_place.lf (lamB_of (tag := tg_by_place) TK_by_place X1 G1 B1 (by simp)) ) (PySem.W.mg_of X G a_by_place) k_by_place B_by_place
 have F_lead : FnB l.prog w K mg base (CXE l.prog w) 1 "lead" ["first", "second", "third"] sp_lead := .of (ok_lead U_lead T ) (PySem.W.mg_of X G a_lead) k_lead B_lead
 have F_point_along : FnB l.prog w K mg base (CXE l.prog w) 3 "point_along" ["first", "second", "place"] sp_palong := .of (ok_point_along U_point_along T F_point_of) (PySem.W.mg_of X G a_point_along) k_point_along B_point_along
 have F_reach_within : FnB l.prog w K mg base (CXE l.prog w) 4 "reach_within" ["spots", "one", "other"] (sp_rw K) := .of (ok_reach_within U_reach_within T F_point_along F_less F_fraction_of F_lead) (PySem.W.mg_of X G a_reach_within) k_reach_within B_reach_within
 have F_reaches : FnB l.prog w K mg base (CXE l.prog w) 5 "reaches" ["spots"] (sp_reaches K) := .of (ok_reaches U_reaches T F_reach_within) (PySem.W.mg_of X G a_reaches) k_reaches B_reaches
 have F_ties : FnB l.prog w K mg base (CXE l.prog w) 6 "ties" ["spots"] (sp_ties K) := .of (ok_ties U_ties T F_reaches F_check_spots) (PySem.W.mg_of X G a_ties) k_ties B_ties
 have F_spot_turn : FnB l.prog w K mg base (CXE l.prog w) 3 "spot_turn" ["spots", "one", "other", "third"] sp_sturn := .of (ok_spot_turn U_spot_turn T F_spot_point F_turn) (PySem.W.mg_of X G a_spot_turn) k_spot_turn B_spot_turn
 have F_outer_way : FnB l.prog w K mg base (CXE l.prog w) 4 "outer_way" ["spots", "order"] (sp_outer K) := .of (ok_outer_way U_outer_way T F_spot_turn) (PySem.W.mg_of X G a_outer_way) k_outer_way B_outer_way
 have F_rim : FnB l.prog w K mg base (CXE l.prog w) 5 "rim" ["spots"] (sp_rim K ⟨cda_by_place, tp_by_place⟩) := .of (ok_rim U_rim T F_outer_way F_by_place F_check_spots) (PySem.W.mg_of X G a_rim) k_rim B_rim
 have F__law_feed : FnB l.prog w K mg base (CXE l.prog w) 1 "_law_feed" ["_law_script", "_law_k"] (sp_feed K) := .of (ok__law_feed U__law_feed T ) (PySem.W.mg_of X G a__law_feed) k__law_feed B__law_feed
 have F__law_next : FnB l.prog w K mg base (CXE l.prog w) 1 "_law_next" ["_law_feed_here", "_law_many"] sp_next := .of (ok__law_next U__law_next T ) (PySem.W.mg_of X G a__law_next) k__law_next B__law_next
 have F__law_great : FnB l.prog w K mg base (CXE l.prog w) 2 "_law_great" ["_law_feed_here", "_law_far"] sp_great := .of (ok__law_great U__law_great T F__law_next) (PySem.W.mg_of X G a__law_great) k__law_great B__law_great
 have F__law_spot : FnB l.prog w K mg base (CXE l.prog w) 3 "_law_spot" ["_law_feed_here", "_law_style"] sp_spot := .of (ok__law_spot U__law_spot T F__law_great F__law_next) (PySem.W.mg_of X G a__law_spot) k__law_spot B__law_spot
 have F__law_spots : FnB l.prog w K mg base (CXE l.prog w) 4 "_law_spots" ["_law_script"] (sp_spots K) := .of (ok__law_spots U__law_spots T F__law_feed F__law_spot F__law_next) (PySem.W.mg_of X G a__law_spots) k__law_spots B__law_spots
 have F__law_between : FnB l.prog w K mg base (CXE l.prog w) 1 "_law_between" ["_law_one", "_law_other", "_law_third"] sp_btw := .of (ok__law_between U__law_between T ) (PySem.W.mg_of X G a__law_between) k__law_between B__law_between
 have F__law_is_step : FnB l.prog w K mg base (CXE l.prog w) 3 "_law_is_step" ["_law_points", "_law_i", "_law_j"] (sp_isstep K) := .of (ok__law_is_step U__law_is_step T F__law_between F_turn) (PySem.W.mg_of X G a__law_is_step) k__law_is_step B__law_is_step
 exact ok_law U_law T F_rim F_ties F__law_is_step F_ahead F__law_spots
theorem walk {l : PySem.W.OpenLaw} {q : Program} {loose : List Str} {XP : (Str → Option Value) → Heap → Prop} {YP : World → Heap → Prop} {d : DefRec} {K : Params → PySem.W.Frag} (hn : l.most = some 63) (hdf : d.params.defaults = []) (tp_by_place : Addr)
  (hTs : ∀ z ∈ [(tp_by_place, tg_by_place)], ([(tp_by_place, tg_by_place)] : List (Addr × Array Value)).lookup z.1 = some z.2) (hq : ((["by_place"] : List Str).all fun y => ((PyProof.Rows.recsOf q).map (·.name)).contains y) = true)
  (hY : ∀ (w : World) (h : Heap), YP w h → (K w.params).In h)
  (F : ∀ (w : World) (mg : Str → Option Value) (fa : Addr) (h : Heap), (K w.params).In h → h.Ns mainGlobals mg → mg d.name = some (.ref fa) →
   (∀ z ∈ [(tp_by_place, tg_by_place)], ∃ (y : Str) (f c : Addr), y ∈ (["by_place"] : List Str) ∧ TabK (K w.params) y f c z.1) ∧ ∃ fd : FuncData, (∀ (s : Shared) (u : Value), BindsTo s fd ⟨[u], []⟩ [("_law_script", u)]) ∧ ∀ base : Heap, (K w.params).In base → base.Ns mainGlobals mg → BaseT mg base [(tp_by_place, tg_by_place)] → FnOk l.prog w (K w.params) mg base (CXE l.prog w) 7 fa fd ["_law_script"] (sp_law (K w.params) tp_by_place)) :
  PySem.W.WalkO q loose XP YP l.row.toRowW d [] (fun f vs => PySem.call f vs) :=
 L2.walk_ofT (n := 63) (k := 7) (x := "_law_script") (CX := fun w => (CXE l.prog w)) (sp := fun w => sp_law (K w.params) tp_by_place) [(tp_by_place, tg_by_place)] ["by_place"] hn (by decide) hdf ⟨rfl, by decide, by decide⟩ hTs (fun y hy => List.contains_iff_mem.mp (List.all_eq_true.mp hq y hy)) hY F (fun _ _ a ns hl hT hS => ⟨a, ns, rfl, hS, hl, hT (tp_by_place, tg_by_place) (by simp), fun _ => rfl⟩) fun _ _ _ _ _ z => (by obtain ⟨_, _, _, _, _, _, _, _, _, _, _, _, _, _, _, hE⟩ := z; exact hE)
end LW
end
namespace LW
open PySem
noncomputable def isN : Stmt → Bool
 | .Assign [.Name x _] _ _ => x == ("__name__" : Str)
 | _ => false
noncomputable def qv : Program := { PySem.Challenge.pw_nearlands_k56_rims with main := { PySem.Challenge.pw_nearlands_k56_rims.main with body := PySem.Challenge.pw_nearlands_k56_rims.main.body.filter fun s => !isN s } }
end LW
open PySem PySem.W PyProof.Rows
local macro_rules | `(tactic| o_head $H) => `(tactic| (refine holds_open (q := LW.qv) (loose := []) (Xt := fun s => xlAt LW.qv [] s && recOk (RowW.records PySem.Challenge.rw_nearlands_k56_rims.row.toRowW) s) (XP := XL LW.qv []) (Yf := Hook.obs $H) (Ya := Hook.val $H) (YP := Hook.says $H) (N := 30000) ?hl (Hook.of $H) (Hook.keeps $H) (fun s e => xl_of s (Bool.and_eq_true_iff.mp e).1) XL.keeps (by rfl) (by rfl) (by rfl) (fun s e => recFacts_of (Bool.and_eq_true_iff.mp e).2) (by rfl) (by first | assumption | decide +kernel) (by decide +kernel) ⟨rfl, rfl, rfl, rfl, rfl, by decide +kernel⟩ ?hw ?hc))
set_option maxRecDepth 100000 in
set_option maxHeartbeats 0 in
theorem PySem.Challenge.cw_nearlands_k56_rims_holds : PySem.Challenge.rw_nearlands_k56_rims.Holds := by
 w_on; o_law; k_head
 case hl =>
  intro w
  unfold openEnds fencedOpening topFrom
  rw [Fast.te10274390034422433532, Fast.te14082659384304107361, Fast.te14289696077712309145, Fast.te4187177175401517315, Fast.te1435165496053646825, Fast.te14364793385576792824]
  kernel_rfl
 case hw => w_witness2
 k_fill
 refine' LW.walk (l := PySem.Challenge.rw_nearlands_k56_rims) rfl rfl ?tp_by_place ?hTs ?hq (fun w h Y => PySem.W.km_in_of Y) ?F
 case F =>
  intro w mg fa h KX G hmg
  refine' LW.all_mk KX G hmg ?a_divisor ?l_divisor ?c_divisor ?k_divisor ?a_sign ?l_sign ?c_sign ?k_sign ?a_point_of ?l_point_of ?c_point_of ?k_point_of ?a_spot_point ?l_spot_point ?c_spot_point ?k_spot_point ?a_fraction_of ?l_fraction_of ?c_fraction_of ?k_fraction_of ?a_less ?l_less ?c_less ?k_less ?a_ahead ?l_ahead ?c_ahead ?k_ahead ?a_turn ?l_turn ?c_turn ?k_turn ?a_check_count ?l_check_count ?c_check_count ?k_check_count ?a_check_spots ?l_check_spots ?c_check_spots ?k_check_spots ?a_by_place ?l_by_place ?c_by_place ?k_by_place ?a_lead ?l_lead ?c_lead ?k_lead ?a_point_along ?l_point_along ?c_point_along ?k_point_along ?a_reach_within ?l_reach_within ?c_reach_within ?k_reach_within ?a_reaches ?l_reaches ?c_reaches ?k_reaches ?a_ties ?l_ties ?c_ties ?k_ties ?a_spot_turn ?l_spot_turn ?c_spot_turn ?k_spot_turn ?a_outer_way ?l_outer_way ?c_outer_way ?k_outer_way ?a_rim ?l_rim ?c_rim ?k_rim ?a__law_feed ?l__law_feed ?c__law_feed ?k__law_feed ?a__law_next ?l__law_next ?c__law_next ?k__law_next ?a__law_great ?l__law_great ?c__law_great ?k__law_great ?a__law_spot ?l__law_spot ?c__law_spot ?k__law_spot ?a__law_spots ?l__law_spots ?c__law_spots ?k__law_spots ?a__law_between ?l__law_between ?c__law_between ?k__law_between ?a__law_is_step ?l__law_is_step ?c__law_is_step ?k__law_is_step ?a_law ?l_law ?c_law ?k_law ?z_abs ?z_all ?z_enumerate ?z_isinstance ?z_len ?z_list ?z_max ?z_min ?z_range ?z_sorted ?a_MOST_SPOTS ?t0_by_place ?t1_by_place ?t2_by_place ?t3_by_place ?t4_by_place ?t5_by_place ?t6_by_place ?t7_by_place ?t8_by_place ?t9_by_place
  (case a_divisor => k_is)
  (case l_divisor => k_is)
  (case c_divisor => k_is)
  (case k_divisor => k_is)
  (case a_sign => k_is)
  (case l_sign => k_is)
  (case c_sign => k_is)
  (case k_sign => k_is)
  (case a_point_of => k_is)
  (case l_point_of => k_is)
  (case c_point_of => k_is)
  (case k_point_of => k_is)
  (case a_spot_point => k_is)
  (case l_spot_point => k_is)
  (case c_spot_point => k_is)
  (case k_spot_point => k_is)
  (case a_fraction_of => k_is)
  (case l_fraction_of => k_is)
  (case c_fraction_of => k_is)
  (case k_fraction_of => k_is)
  (case a_less => k_is)
  (case l_less => k_is)
  (case c_less => k_is)
  (case k_less => k_is)
  (case a_ahead => k_is)
  (case l_ahead => k_is)
  (case c_ahead => k_is)
  (case k_ahead => k_is)
  (case a_turn => k_is)
  (case l_turn => k_is)
  (case c_turn => k_is)
  (case k_turn => k_is)
  (case a_check_count => k_is)
  (case l_check_count => k_is)
  (case c_check_count => k_is)
  (case k_check_count => k_is)
  (case a_check_spots => k_is)
  (case l_check_spots => k_is)
  (case c_check_spots => k_is)
  (case k_check_spots => k_is)
  (case a_by_place => k_is)
  (case l_by_place => k_is)
  (case c_by_place => k_is)
  (case k_by_place => k_is)
  (case a_lead => k_is)
  (case l_lead => k_is)
  (case c_lead => k_is)
  (case k_lead => k_is)
  (case a_point_along => k_is)
  (case l_point_along => k_is)
  (case c_point_along => k_is)
  (case k_point_along => k_is)
  (case a_reach_within => k_is)
  (case l_reach_within => k_is)
  (case c_reach_within => k_is)
  (case k_reach_within => k_is)
  (case a_reaches => k_is)
  (case l_reaches => k_is)
  (case c_reaches => k_is)
  (case k_reaches => k_is)
  (case a_ties => k_is)
  (case l_ties => k_is)
  (case c_ties => k_is)
  (case k_ties => k_is)
  (case a_spot_turn => k_is)
  (case l_spot_turn => k_is)
  (case c_spot_turn => k_is)
  (case k_spot_turn => k_is)
  (case a_outer_way => k_is)
  (case l_outer_way => k_is)
  (case c_outer_way => k_is)
  (case k_outer_way => k_is)
  (case a_rim => k_is)
  (case l_rim => k_is)
  (case c_rim => k_is)
  (case k_rim => k_is)
  (case a__law_feed => k_is)
  (case l__law_feed => k_is)
  (case c__law_feed => k_is)
  (case k__law_feed => k_is)
  (case a__law_next => k_is)
  (case l__law_next => k_is)
  (case c__law_next => k_is)
  (case k__law_next => k_is)
  (case a__law_great => k_is)
  (case l__law_great => k_is)
  (case c__law_great => k_is)
  (case k__law_great => k_is)
  (case a__law_spot => k_is)
  (case l__law_spot => k_is)
  (case c__law_spot => k_is)
  (case k__law_spot => k_is)
  (case a__law_spots => k_is)
  (case l__law_spots => k_is)
  (case c__law_spots => k_is)
  (case k__law_spots => k_is)
  (case a__law_between => k_is)
  (case l__law_between => k_is)
  (case c__law_between => k_is)
  (case k__law_between => k_is)
  (case a__law_is_step => k_is)
  (case l__law_is_step => k_is)
  (case c__law_is_step => k_is)
  (case k__law_is_step => k_is)
  (case a_law => k_is)
  (case l_law => k_is)
  (case c_law => k_is)
  (case k_law => k_is)
  (case z_abs => k_is)
  (case z_all => k_is)
  (case z_enumerate => k_is)
  (case z_isinstance => k_is)
  (case z_len => k_is)
  (case z_list => k_is)
  (case z_max => k_is)
  (case z_min => k_is)
  (case z_range => k_is)
  (case z_sorted => k_is)
  (case a_MOST_SPOTS => k_is)
  (case t0_by_place => rfl)
  (case t1_by_place => k_is)
  (case t2_by_place => rfl)
  (case t3_by_place => rfl)
  (case t4_by_place => rfl)
  (case t5_by_place => rfl)
  (case t6_by_place => rfl)
  (case t7_by_place => rfl)
  (case t8_by_place => decide)
  (case t9_by_place => kernel_rfl)
 case hTs => simp
 case hq => kernel_rfl
