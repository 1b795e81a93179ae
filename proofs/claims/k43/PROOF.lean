import PyProof.Rows.All
import Wide.All
import OpenK.AllK
import Wide.FinOn
import Lean
import PyProof.EqAt
import PyProof.EqKinds
import PyProof.TupleCall
import PyProof.ExcArgsOwn
import PyProof.ExcAttrAll.ValueError
import KE.KTryMore
import PyProof.NsDelKeeps
import PyProof.ExcBaseAll.ValueError
import KE.RegKTryMore
import KE.RegKIsAll
import KE.KRevSl
import PyProof.ZipIter
import PyProof.ExcClass3
import PyProof.ExcInit
import KE.KSuper
import PyProof.DictIter
import KE.KDictIter
import KE.KDictList
import PyProof.EnumStmt
import PyProof.WalksEnum
import PyProof.EnumMake
import PyProof.Rows.EnumRows
import PyProof.Rows.InDataRows
import PyProof.SumWalk
import PyProof.Rows.SeqCalls
import PyProof.WalksMore
import PyProof.Rows.SetFrom
import PyProof.SetRoads
import PyProof.Rows.TupMore
import PyProof.Rows.SortWalk
import PyProof.ListRange
import KE.KSortTup
import KE.KLam
import PyProof.ListRange
import PySem.Challenge.RW_nearlands_k43_halves
set_option Elab.async false
set_option linter.all false
set_option maxRecDepth 100000
namespace L2
open PySem PySem.Spec PyProof.Rows
noncomputable abbrev Key := Sum Int Str
noncomputable def keyIs : Key → Value → Bool
 | .inl k, v => Value.isInt k v
 | .inr x, v => Value.isStrOf x v
noncomputable def keyH (w : World) : Key → Int
 | .inl k => hashInt k
 | .inr x => hashStr w x
theorem keyIs_shape : ∀ {k : Key} {v : Value}, keyIs k v = true → (∃ i t, k = Sum.inl i ∧ v = Value.int i t) ∨ (∃ x t, k = Sum.inr x ∧ v = Value.str x t)
 | .inl i, v, h => by
  obtain ⟨t, e⟩ := Value.isInt_shape (k := i) (v := v) h
  exact .inl ⟨i, t, rfl, e⟩
 | .inr x, v, h => by
  obtain ⟨t, e⟩ := Value.isStrOf_shape (x := x) (v := v) h
  exact .inr ⟨x, t, rfl, e⟩
theorem keyIs_int (i : Int) (t : Tok) : keyIs (.inl i) (.int i t) = true := by simp [keyIs, Value.isInt]
theorem keyIs_str (x : Str) (t : Tok) : keyIs (.inr x) (.str x t) = true := by simp [keyIs, Value.isStrOf]
theorem key_ll (a b : Int) : decide ((Sum.inl a : Key) = Sum.inl b) = (a == b) := by
 by_cases e : a = b
 ·subst e; simp
 ·have h : ¬ (Sum.inl a : Key) = Sum.inl b := fun q => e (Sum.inl.inj q)
  rw [decide_eq_false h]
  exact (beq_eq_false_iff_ne.mpr e).symm
theorem key_rr (a b : Str) : decide ((Sum.inr a : Key) = Sum.inr b) = decide (a = b) := by
 by_cases e : a = b
 ·subst e; simp
 ·have h : ¬ (Sum.inr a : Key) = Sum.inr b := fun q => e (Sum.inr.inj q)
  rw [decide_eq_false h, decide_eq_false e]
theorem key_lr (a : Int) (b : Str) : decide ((Sum.inl a : Key) = Sum.inr b) = false := decide_eq_false (fun q => nomatch q)
theorem key_rl (a : Str) (b : Int) : decide ((Sum.inr a : Key) = Sum.inl b) = false := decide_eq_false (fun q => nomatch q)
noncomputable def mixKind (prog : Program) (w : World) : PySem.KeyKind prog w Key where
 is := keyIs
 hash := keyH w
 inj := fun v a b ha hb => by
  rcases keyIs_shape ha with ⟨i, t, rfl, rfl⟩ | ⟨x, t, rfl, rfl⟩
  ·rcases keyIs_shape hb with ⟨j, u, rfl, e⟩ | ⟨y, u, rfl, e⟩
   ·injection e with e1 _; rw [e1]
   ·exact nomatch e
  ·rcases keyIs_shape hb with ⟨j, u, rfl, e⟩ | ⟨y, u, rfl, e⟩
   ·exact nomatch e
   ·injection e with e1 _; rw [e1]
 byValue := fun k v h => by
  rcases keyIs_shape h with ⟨i, t, rfl, rfl⟩ | ⟨x, t, rfl, rfl⟩ <;> rfl
 pyHash := fun hv h => by
  rcases keyIs_shape hv with ⟨i, t, rfl, rfl⟩ | ⟨x, t, rfl, rfl⟩
  ·exact wpAny_pyHash_int h
  ·exact wpAny_pyHash_str h
 eqBool := fun hu hv h => by
  rcases keyIs_shape hu with ⟨i, t, rfl, rfl⟩ | ⟨x, t, rfl, rfl⟩
  ·rcases keyIs_shape hv with ⟨j, u, rfl, rfl⟩ | ⟨y, u, rfl, rfl⟩
   ·rw [key_ll] at h; exact wpAny_eqBool_int h
   ·rw [key_lr] at h; exact SeqAt.EqAt.int_str i t y u _ _ _ _ h
  ·rcases keyIs_shape hv with ⟨j, u, rfl, rfl⟩ | ⟨y, u, rfl, rfl⟩
   ·rw [key_rl] at h; exact SeqAt.EqAt.str_int x t j u _ _ _ _ h
   ·rw [key_rr] at h; exact wpAny_eqBool_str h
 «strs» := fun k x t v h => by
  rcases keyIs_shape h with ⟨i, u, rfl, e⟩ | ⟨y, u, rfl, e⟩
  ·exact nomatch e
  ·injection e with e1 _
   subst e1
   cases v <;> rfl
theorem mixKind_int (prog : Program) (w : World) (i : Int) (t : Tok) : (mixKind prog w).is (.inl i) (.int i t) = true := keyIs_int i t
theorem mixKind_str (prog : Program) (w : World) (x : Str) (t : Tok) : (mixKind prog w).is (.inr x) (.str x t) = true := keyIs_str x t
end L2
namespace L2
open PySem PySem.Spec PyProof.Rows
inductive V where
 | non | bl (b : Bool) | int (i : Int) | str (x : Str) | byt (b : Array UInt8) | flt (b : UInt64) | ref (a : Addr) | ty (n : String)
 deriving DecidableEq
noncomputable def RelV : V → Value → Prop
 | .non, u => u = Value.none
 | .bl b, u => u = Value.bool b
 | .int i, u => ∃ t, u = Value.int i t
 | .str x, u => ∃ t, u = Value.str x t
 | .byt b, u => ∃ t, u = Value.bytes b t
 | .flt b, u => ∃ t, u = Value.float b t
 | .ref a, u => u = Value.ref a
 | .ty n, u => u = Value.type n
noncomputable abbrev Vals : List V → List Value → Prop := Paired RelV
theorem Vals.length {xs : List V} {us : List Value} (r : Vals xs us) : xs.length = us.length := Paired.length r
theorem Vals.get : ∀ {xs : List V} {us : List Value} {i : Nat} {x : V}, Vals xs us → xs[i]? = some x → ∃ u, us[i]? = some u ∧ RelV x u
 | _, _, _, _, .nil, e => by simp at e
 | _, _, 0, _, .cons r _, e => by simp at e; subst e; exact ⟨_, rfl, r⟩
 | _, _, i + 1, x, .cons _ t, e => by
  obtain ⟨u, h1, h2⟩ := Vals.get (i := i) (x := x) t (by simpa using e)
  exact ⟨u, by simpa using h1, h2⟩
theorem Vals.set {x : V} {u : Value} (r : RelV x u) : ∀ {xs : List V} {us : List Value} (i : Nat), Vals xs us → Vals (xs.set i x) (us.set i u)
 | _, _, _, .nil => .nil
 | _, _, 0, .cons _ t => .cons r t
 | _, _, i + 1, .cons q t => .cons q (Vals.set r i t)
theorem Vals.append : ∀ {xs ys : List V} {us ws : List Value}, Vals xs us → Vals ys ws → Vals (xs ++ ys) (us ++ ws)
 | _, _, _, _, .nil, s => s
 | _, _, _, _, .cons r t, s => .cons r (Vals.append t s)
theorem Vals.take : ∀ {xs : List V} {us : List Value} (n : Nat), Vals xs us → Vals (xs.take n) (us.take n)
 | _, _, 0, _ => .nil
 | _, _, _ + 1, .nil => .nil
 | _, _, n + 1, .cons r t => .cons r (Vals.take n t)
theorem Vals.drop : ∀ {xs : List V} {us : List Value} (n : Nat), Vals xs us → Vals (xs.drop n) (us.drop n)
 | _, _, 0, r => r
 | _, _, _ + 1, .nil => .nil
 | _, _, n + 1, .cons _ t => Vals.drop n t
theorem Vals.none_of : ∀ {xs : List V} {us : List Value} {i : Nat}, Vals xs us → xs[i]? = none → us[i]? = none := fun {xs us i} r e => by
 have h1 := r.length
 have h2 : xs.length ≤ i := List.getElem?_eq_none_iff.mp e
 exact List.getElem?_eq_none_iff.mpr (by omega)
noncomputable def RelO : Option V → Option Value → Prop
 | some v, some u => RelV v u
 | none, none => True
 | _, _ => False
noncomputable def KV {κ : Type} : List (κ × V) → List (κ × Value) → Prop := Paired fun (p : κ × V) (q : κ × Value) => p.1 = q.1 ∧ RelV p.2 q.2
noncomputable def kV : Key → V
 | .inl i => .int i
 | .inr x => .str x
inductive HO where
 | lst (xs : List V)
 | tup (xs : List V)
 | dK (kvs : List (Key × V)) | dT (kvs : List (List Key × V))
 | set (S : Int → Bool) (n : Nat)
 | ins (C dx : Addr) (fs : List (Str × V))
 | own (x : Addr)
 | xd (fs : List (Str × V))
 | met (f x : Addr)
 | rng (lo hi : Int)
 | frz (o : Obj) (u : HO)
 | tbl (ps : Array Value)
 | ext (φ : Heap → Prop)
noncomputable abbrev Hp := Addr → Option HO
noncomputable def upd (H : Hp) (a : Addr) (o : HO) : Hp := fun b => if b = a then some o else H b
theorem upd_same {H : Hp} {a : Addr} {o : HO} : upd H a o a = some o := by unfold upd; rw [if_pos rfl]
theorem upd_ne {H : Hp} {a b : Addr} {o : HO} (h : b ≠ a) : upd H a o b = H b := by unfold upd; rw [if_neg h]
theorem upd_upd {H : Hp} {a : Addr} {o u : HO} : upd (upd H a o) a u = upd H a u := by
 funext b; unfold upd; split <;> rfl
theorem ne_of {H : Hp} {a b : Addr} {o u : HO} (h : H a = some o) (h' : H b = some u) (d : o ≠ u) : a ≠ b := by
 intro e; subst e; rw [h] at h'; exact d (Option.some.inj h')
theorem ne_of_none {H : Hp} {a b : Addr} {o : HO} (h : H a = some o) (h' : H b = none) : a ≠ b := by
 intro e; subst e; rw [h] at h'; cases h'
section
variable (P : Program) (w : World)
noncomputable def ObjOk (H : Hp) (h : Heap) (a : Addr) : HO → Prop
 | .lst xs => xs.length ≤ sizeLine ∧ ∃ (its : List Value) (n : Nat), Vals xs its ∧ h.get? a = some { cls := .type "list", data := .seq its.toArray n }
 | .tup xs => xs.length ≤ sizeLine ∧ ∃ its : List Value, Vals xs its ∧ IsTup h a its.toArray
 | .dK kvs => kvs.length ≤ sizeLine ∧ (a == sysModules) = false ∧ ∃ vs, KV kvs vs ∧ h.DictOf (mixKind P w) a vs
 | .dT kvs => kvs.length ≤ sizeLine ∧ (a == sysModules) = false ∧ ∃ xs : List (List Key × Addr × Value),
   Paired (fun (p : List Key × V) (q : List Key × Addr × Value) => p.1 = q.1 ∧ H q.2.1 = some (.tup (p.1.map kV)) ∧ RelV p.2 q.2.2) kvs xs ∧
   ∃ o es ep, h.get? a = some o ∧ o.ExactDict ∧ o.data = .dict es ep ∧ es.toList = xs.map (entryOfKey (tupleKind (mixKind P w))) ∧ (xs.map (·.1)).Nodup
 | .set S n => h.SetOf (intKind P w) a S n
 | .ins C dx fs => H dx = some (.own a) ∧ fs.length ≤ 1000 ∧ dx ≠ a ∧ h.get? a = some (PySem.W.instObj C dx) ∧
   ∃ mA, h.Ns1 dx mA ∧ (∀ f, RelO (fs.lookup f) (mA f)) ∧ PySem.Within mA (fs.map (·.1))
 | .own _ => ∃ o, h.get? a = some o
 | .xd fs => ∃ mA, h.Ns1 a mA ∧ ∀ f, RelO (fs.lookup f) (mA f)
 | .rng lo hi => ∃ t u v, h.get? a = some { cls := .type "range", data := .fields #[.int lo t, .int hi u, .int 1 v] }
 | .frz o u => h.get? a = some o ∧ ObjOk H h a u
 | .tbl ps => ∃ qs : Array Value, h.get? a = some { cls := .none, data := .fields qs } ∧ (qs = #[] ∨ ∃ (c : Addr) (oc : Obj) (l d : Value) (q : Str) (t u : Tok) (vs : Array Value),
   ps = #[l, d, .str q t] ∧ qs = #[l, d, .ref c] ∧ H c = some (.frz oc (.own 0)) ∧ oc.data = .fields vs ∧ vs[1]? = some (.str q u))
 | .met f x => h.get? a = some (PySem.W.methodObj (.ref f) (.ref x))
 | .ext φ => φ h ∧ (∃ o, h.get? a = some o) ∧ ∀ h1 h2 : Heap, φ h1 → (∀ o, h1.get? a = some o → h2.get? a = some o) → φ h2
noncomputable def HOk (H : Hp) (h : Heap) : Prop := ∀ a o, H a = some o → ObjOk P w H h a o
end
section
variable {P : Program} {w : World} {H H' : Hp} {h h' : Heap} {a : Addr} {o : HO}
theorem ObjOk.lt (x : ObjOk P w H h a o) : a < h.objs.size := by
 cases o with
 | lst xs => obtain ⟨_, _, _, _, e⟩ := x; exact Heap.lt_size e
 | tup xs => obtain ⟨_, _, _, p⟩ := x; exact p.lt
 | dK kvs => obtain ⟨_, _, _, _, o, _, _, e, _⟩ := x; exact Heap.lt_size e
 | dT kvs => obtain ⟨_, _, _, _, o, _, _, e, _⟩ := x; exact Heap.lt_size e
 | set S n => obtain ⟨o, _, _, _, e, _⟩ := x; exact Heap.lt_size e
 | ins C dx fs => obtain ⟨_, _, _, e, _⟩ := x; exact Heap.lt_size e
 | own y => obtain ⟨_, e⟩ := x; exact Heap.lt_size e
 | xd fs => obtain ⟨_, ⟨_, _, _, e, _⟩, _⟩ := x; exact Heap.lt_size e
 | rng lo hi => obtain ⟨_, _, _, e⟩ := x; exact Heap.lt_size e
 | frz ob u => obtain ⟨e, _⟩ := x; exact Heap.lt_size e
 | tbl ps => obtain ⟨_, e, _⟩ := x; exact Heap.lt_size e
 | met f y => exact Heap.lt_size (show h.get? a = some _ from x)
 | ext φ => obtain ⟨_, ⟨_, e⟩, _⟩ := x; exact Heap.lt_size e
theorem Paired.mapP {α β : Type} {F G : α → β → Prop} : ∀ {l₁ : List α} {l₂ : List β}, Paired F l₁ l₂ → (∀ a b, F a b → G a b) → Paired G l₁ l₂
 | _, _, .nil, _ => .nil
 | _, _, .cons r t, f => .cons (f _ _ r) (Paired.mapP t f)
noncomputable def stillB : HO → Bool
 | .tup _ => true
 | .frz _ _ => true
 | _ => false
noncomputable abbrev Still := { o : HO // stillB o = true }
theorem ObjOk.stay (x : ObjOk P w H h a o) (k : ∀ b u, (b = a ∨ H b = some (.own a)) → h.get? b = some u → h'.get? b = some u)
  (ho : ∀ b, H b = some (.own a) → H' b = some (.own a)) (ht : ∀ (b : Addr) (xs : Still), H b = some xs.1 → H' b = some xs.1) : ObjOk P w H' h' a o := by
 induction o with
 | lst xs => obtain ⟨z, its, n, r, e⟩ := x; exact ⟨z, its, n, r, k _ _ (.inl rfl) e⟩
 | tup xs => obtain ⟨z, its, r, ob, e, c⟩ := x; exact ⟨z, its, r, ob, k _ _ (.inl rfl) e, c⟩
 | dK kvs => obtain ⟨z, y, vs, r, ob, es, ep, e, c⟩ := x; exact ⟨z, y, vs, r, ob, es, ep, k _ _ (.inl rfl) e, c⟩
 | dT kvs =>
  obtain ⟨z, y, xs, r, ob, es, ep, e, c⟩ := x
  exact ⟨z, y, xs, Paired.mapP r fun p q z => ⟨z.1, ht _ ⟨.tup _, rfl⟩ z.2.1, z.2.2⟩, ob, es, ep, k _ _ (.inl rfl) e, c⟩
 | set S n => obtain ⟨ob, es, ep, t, e, c⟩ := x; exact ⟨ob, es, ep, t, k _ _ (.inl rfl) e, c⟩
 | ins C dx fs =>
  obtain ⟨d, z, ne, e, mA, ⟨od, es, ep, e2, c⟩, r⟩ := x
  exact ⟨ho _ d, z, ne, k _ _ (.inl rfl) e, mA, ⟨od, es, ep, k _ _ (.inr d) e2, c⟩, r⟩
 | own y => obtain ⟨ob, e⟩ := x; exact ⟨ob, k _ _ (.inl rfl) e⟩
 | xd fs => obtain ⟨mA, ⟨od, es, ep, e, c⟩, r⟩ := x; exact ⟨mA, ⟨od, es, ep, k _ _ (.inl rfl) e, c⟩, r⟩
 | rng lo hi => obtain ⟨t, u, v, e⟩ := x; exact ⟨t, u, v, k _ _ (.inl rfl) e⟩
 | frz ob u ih => obtain ⟨e, q⟩ := x; exact ⟨k _ _ (.inl rfl) e, ih q⟩
 | tbl ps =>
  obtain ⟨qs, e, z⟩ := x
  refine ⟨qs, k _ _ (.inl rfl) e, z.imp id fun ⟨c, oc, l, d, q, t, u, vs, e1, e2, e3, e4⟩ => ⟨c, oc, l, d, q, t, u, vs, e1, e2, ht c ⟨.frz oc (.own 0), rfl⟩ e3, e4⟩⟩
 | met f y =>
  have e : h.get? a = some (PySem.W.methodObj (.ref f) (.ref y)) := x
  show h'.get? a = some (PySem.W.methodObj (.ref f) (.ref y))
  exact k a _ (.inl rfl) e
 | ext φ => obtain ⟨p, ⟨o, e⟩, st⟩ := x; exact ⟨st _ _ p fun o q => k _ _ (.inl rfl) q, ⟨o, k _ _ (.inl rfl) e⟩, st⟩
theorem HOk.lt (x : HOk P w H h) (e : H a = some o) : a < h.objs.size := (x a o e).lt
theorem HOk.fresh (x : HOk P w H h) (e : h.objs.size ≤ a) : H a = none := by
 cases q : H a with
 | none => rfl
 | some u => exact absurd (Nat.lt_of_lt_of_le (x.lt q) e) (Nat.lt_irrefl _)
theorem HOk.kept (x : HOk P w H h) (k : ∀ b u, h.get? b = some u → h'.get? b = some u) : HOk P w H h' := fun a o e =>
 (x a o e).stay (fun b u _ q => k b u q) (fun _ q => q) fun _ _ q => q
theorem HOk.laid (x : HOk P w H h) (k : ∀ b u, h.get? b = some u → h'.get? b = some u) (hp : h.objs.size ≤ a) (new : ObjOk P w (upd H a o) h' a o) : HOk P w (upd H a o) h' := fun b u e => by
 have hn := x.fresh hp
 by_cases hb : b = a
 ·subst hb; rw [upd_same] at e; cases e; exact new
 ·rw [upd_ne hb] at e
  exact (x b u e).stay (fun c v _ q => k c v q) (fun c q => by rw [upd_ne (ne_of_none q hn)]; exact q) fun c xs q => by rw [upd_ne (ne_of_none q hn)]; exact q
end
noncomputable def Rd (H : Hp) (a : Addr) (u : HO) : Prop := H a = some u ∨ ∃ o, H a = some (.frz o u)
theorem Rd.of {H : Hp} {a : Addr} {u : HO} (h : H a = some u) : Rd H a u := .inl h
theorem Rd.ok {P : Program} {w : World} {H : Hp} {h : Heap} {a : Addr} {u : HO} (r : Rd H a u) (x : HOk P w H h) : ObjOk P w H h a u := by
 rcases r with r | ⟨o, r⟩
 ·exact x a u r
 ·obtain ⟨_, q⟩ := x a _ r
  exact q
noncomputable def Mut : Option HO → Prop
 | some (.lst _) => True
 | some (.dK _) => True
 | some (.dT _) => True
 | some (.set _ _) => True
 | some (.ins _ _ _) => True
 | some (.ext _) => True
 | _ => False
section
variable {P : Program} {w : World} {H : Hp} {h h' : Heap} {x e : Addr} {o' : HO}
theorem HOk.write (ok : HOk P w H h) (mu : Mut (H x)) (he : e = x ∨ H e = some (.own x)) (k : ∀ b u, b ≠ e → h.get? b = some u → h'.get? b = some u) (heo : ∃ u, h'.get? e = some u)
  (new : ObjOk P w (upd H x o') h' x o') : HOk P w (upd H x o') h' := fun b u q => by
 have nown : ∀ c y, H c = some (.own y) → c ≠ x := fun c y r z => by subst z; rw [r] at mu; exact mu
 have ntup : ∀ c (xs : Still), H c = some xs.1 → c ≠ x := fun c xs r z => by
  subst z
  rw [r] at mu
  obtain ⟨o, ho⟩ := xs
  cases o <;> first | exact mu | cases ho
 by_cases hb : b = x
 ·subst hb; rw [upd_same] at q; cases q; exact new
 ·rw [upd_ne hb] at q
  by_cases hbe : b = e
  ·have q' : H b = some (.own x) := by
    rcases he with z | z
    ·exact absurd (hbe.trans z) hb
    ·rw [hbe]; exact z
   rw [q] at q'; cases q'
   obtain ⟨v, hv⟩ := heo
   exact ⟨v, by rw [hbe]; exact hv⟩
  ·refine (ok b u q).stay (fun c v hc r => k c v ?_ r) (fun c r => by rw [upd_ne (nown c b r)]; exact r) fun c xs r => by rw [upd_ne (ntup c xs r)]; exact r
   rcases hc with rfl | hc
   ·exact hbe
   ·rintro rfl
    rcases he with z | z
    ·exact nown c b hc z
    ·rw [hc] at z; cases z; exact hb rfl
end
structure Un (fs ex : List Addr) (H H' : Hp) (h h' : Heap) : Prop where
 keep : ∀ b o, h.get? b = some o → H b = none → b ∉ fs → b ∉ ex → h'.get? b = some o
 slot : ∀ b o, h.get? b = some o → H b = none → b ∈ fs → b ∉ ex → ∃ sl, h'.get? b = some { o with slots := sl }
 free : ∀ b o, h.get? b = some o → H b = none → b ∉ ex → H' b = none
 there : ∀ b o, h.get? b = some o → b ∉ ex → ∃ o', h'.get? b = some o'
 tups : ∀ b xs, H b = some (.tup xs) → H' b = some (.tup xs)
 frzs : ∀ b o u, H b = some (.frz o u) → H' b = some (.frz o u)
 tbls : ∀ b ps, H b = some (.tbl ps) → ∃ more, H' b = some (.tbl (ps ++ more))
section
variable {fs fs' ex ex' : List Addr} {H H1 H2 : Hp} {h h1 h2 h' : Heap} {a x e : Addr} {o : HO}
theorem Un.any (u : Un fs ex H H1 h h1) {b : Addr} {ob : Obj} (q : h.get? b = some ob) (n : H b = none) (hx : b ∉ ex) : ∃ sl, h1.get? b = some { ob with slots := sl } := by
 by_cases hb : b ∈ fs
 ·exact u.slot b ob q n hb hx
 ·exact ⟨ob.slots, u.keep b ob q n hb hx⟩
theorem Un.trans (a : Un fs ex H H1 h h1) (b : Un fs ex H1 H2 h1 h2) : Un fs ex H H2 h h2 where
 keep := fun c ob q n hc hx => b.keep c ob (a.keep c ob q n hc hx) (a.free c ob q n hx) hc hx
 slot := fun c ob q n hc hx => by
  obtain ⟨sl, e1⟩ := a.slot c ob q n hc hx
  obtain ⟨sl', e2⟩ := b.slot c _ e1 (a.free c ob q n hx) hc hx
  exact ⟨sl', e2⟩
 free := fun c ob q n hx => by
  obtain ⟨o', e1⟩ := a.there c ob q hx
  exact b.free c o' e1 (a.free c ob q n hx) hx
 there := fun c ob q hx => by
  obtain ⟨o', e1⟩ := a.there c ob q hx
  exact b.there c o' e1 hx
 tups := fun c xs q => b.tups c xs (a.tups c xs q)
 frzs := fun c ob xs q => b.frzs c ob xs (a.frzs c ob xs q)
 tbls := fun c ps q => by
  obtain ⟨m1, e1⟩ := a.tbls c ps q
  obtain ⟨m2, e2⟩ := b.tbls c _ e1
  exact ⟨m1 ++ m2, by rw [e2, Array.append_assoc]⟩
theorem Un.kept (k : ∀ b u, h.get? b = some u → h'.get? b = some u) : Un fs ex H H h h' :=
 ⟨fun b ob q _ _ _ => k b ob q, fun b ob q _ _ _ => ⟨ob.slots, k b ob q⟩, fun _ _ _ n _ => n, fun b ob q _ => ⟨ob, k b ob q⟩, fun _ _ q => q, fun _ _ _ q => q, fun _ ps q => ⟨#[], by rw [q]; simp⟩⟩
theorem Un.refl : Un fs ex H H h h := Un.kept fun _ _ q => q
theorem Un.laid (k : ∀ b u, h.get? b = some u → h'.get? b = some u) (hp : h.objs.size ≤ a) (hn : H a = none) : Un fs ex H (upd H a o) h h' where
 keep := fun b u q _ _ _ => k b u q
 slot := fun b u q _ _ _ => ⟨u.slots, k b u q⟩
 free := fun b u q n _ => by rw [upd_ne (Nat.ne_of_lt (Nat.lt_of_lt_of_le (Heap.lt_size q) hp))]; exact n
 there := fun b u q _ => ⟨u, k b u q⟩
 tups := fun b xs q => by rw [upd_ne (ne_of_none q hn)]; exact q
 frzs := fun b u xs q => by rw [upd_ne (ne_of_none q hn)]; exact q
 tbls := fun b ps q => ⟨#[], by rw [upd_ne (ne_of_none q hn), q]; simp⟩
theorem Un.write (mu : Mut (H x)) (he : e = x ∨ H e = some (.own x)) (k : ∀ b u, b ≠ e → h.get? b = some u → h'.get? b = some u) (heo : ∃ u, h'.get? e = some u) : Un fs ex H (upd H x o) h h' := by
 have hx : ∀ b, H b = none → b ≠ x := fun b n z => by subst z; rw [n] at mu; exact mu
 have hb : ∀ b, H b = none → b ≠ e := fun b n z => by
  subst z
  rcases he with r | r
  ·exact hx b n r
  ·rw [n] at r; cases r
 have hm : ∀ b u, H b = some u → ¬ Mut (some u) → b ≠ x := fun b u q nm z => by subst z; rw [q] at mu; exact nm mu
 refine ⟨fun b u q n _ _ => k b u (hb b n) q, fun b u q n _ _ => ⟨u.slots, k b u (hb b n) q⟩, fun b u q n _ => by rw [upd_ne (hx b n)]; exact n, fun b u q _ => ?_,
  fun b xs q => by rw [upd_ne (hm b _ q fun z => z)]; exact q, fun b u xs q => by rw [upd_ne (hm b _ q fun z => z)]; exact q, fun b ps q => ⟨#[], by rw [upd_ne (hm b _ q fun z => z), q]; simp⟩⟩
 by_cases hbe : b = e
 ·subst hbe; exact heo
 ·exact ⟨u, k b u hbe q⟩
theorem Un.mono (u : Un fs ex H H1 h h1) (hs : ∀ b ∈ fs, b ∈ fs') (hx : ∀ b ∈ ex, b ∈ ex') : Un fs' ex' H H1 h h1 :=
 ⟨fun b ob q n hb he => u.keep b ob q n (fun z => hb (hs b z)) fun z => he (hx b z), fun _ _ q n _ he => u.any q n fun z => he (hx _ z), fun b ob q n he => u.free b ob q n fun z => he (hx b z), fun b ob q he => u.there b ob q fun z => he (hx b z), u.tups, u.frzs, u.tbls⟩
end
noncomputable def trk (h : Heap) (H : Hp) : List Addr := (List.range h.objs.size).filter fun a => (H a).isSome
noncomputable def hidT (h : Heap) (H : Hp) : Heap := PySem.W.hideAll h (trk h H)
theorem hidT_size (h : Heap) (H : Hp) : (hidT h H).objs.size = h.objs.size := PySem.W.hideAll_size _ _
theorem hidT_get {h : Heap} {H : Hp} {b : Addr} {o : Obj} (e : h.get? b = some o) (n : H b = none) : (hidT h H).get? b = some o :=
 PySem.W.hideAll_get _ e fun hm => by
  have q : (H b).isSome = true := (List.mem_filter.mp hm).2
  rw [n] at q; simp at q
theorem of_hidT {h : Heap} {H : Hp} {b : Addr} {o : Obj} (e : (hidT h H).get? b = some o) : h.get? b = some o ∧ H b = none := by
 have e' : h.get? b = some o := PySem.W.of_hideAll (trk h H) e
 refine ⟨e', ?_⟩
 cases q : H b with
 | none => rfl
 | some x =>
  have hm : b ∈ trk h H := List.mem_filter.mpr ⟨List.mem_range.mpr (Heap.lt_size e'), by simp [q]⟩
  have z : (hidT h H).get? b = none := PySem.W.hideAll_none (trk h H) hm
  rw [z] at e; cases e
noncomputable def allNews (g h : Heap) (L : Addr) : List (Addr × Obj) := (List.range h.objs.size).filterMap fun a => if a = L ∨ (g.get? a).isSome = true then none else (h.get? a).map fun o => (a, o)
noncomputable def rest (g h : Heap) (L d : Addr) : List (Addr × Obj) := (allNews g h L).filter fun p => decide (p.1 ≠ d)
end L2
namespace L2
open PySem PySem.Spec PyProof.Rows
structure Mod (K : PySem.W.Frag) (mg : Str → Option Value) (base : Heap) : Prop where
 kin : K.In base
 glob : base.Ns mainGlobals mg
 blt : ∃ mb, base.Ns builtinsNs mb ∧ ∀ x : Str, x ≠ "__name__" → mb x = bootBuiltins x
 nolimit : base.NoLimit
structure Cx where
 prog : Program
 w : World
 K : PySem.W.Frag
 mg : Str → Option Value
 base : Heap
 A : Around
 N : List Str
 s₀ : Shared
 H₀ : Hp
 env : Env
 outer : List Env
 stack : List Env
 ex : List Addr
 fn : Str → Bool
 calm : Bool
 pn : List (Addr × Obj)
 xe : Value → Shared → Prop
noncomputable def frs (l : List Env) : List Addr := l.filterMap (·.frame)
noncomputable abbrev Cx.fs (X : Cx) : List Addr := frs X.outer
noncomputable def Vis (sc : Scope) (x : Str) : Prop := sc.names.lookup x = some .local ∨ sc.names.lookup x = some .cell ∨ sc.names.lookup x = some .free
noncomputable def Loc (sc : Scope) (x : Str) : Prop := sc.names.lookup x = some .local ∨ sc.names.lookup x = some .cell
noncomputable def Look (env : Env) (h : Heap) (m : Str → Option Value) (x : Str) (u : Value) : Prop :=
 (env.kindOf x = some .local ∧ m x = some u) ∨ ((env.kindOf x = some .cell ∨ env.kindOf x = some .free) ∧ ∃ c, env.cells.lookup x = some c ∧ h.IsCell c (some u))
structure Cx.Ok (X : Cx) : Prop where
 mod : Mod X.K X.mg X.base
 kind : X.env.scope.kind = .function
 glob : X.env.globals = mainGlobals
 blt : X.env.builtins = builtinsNs
 above : X.s₀.heap.objs.size ≤ X.env.locals
 inj : ∀ x y c, X.env.cells.lookup x = some c → X.env.cells.lookup y = some c → x = y
 has : ∀ x, (X.env.kindOf x = some .cell ∨ X.env.kindOf x = some .free) → ∃ c, X.env.cells.lookup x = some c
 cab : ∀ x c, X.fn x = true → X.env.cells.lookup x = some c → X.s₀.heap.objs.size ≤ c
 hd : X.calm = true → X.A.handled = none
 frames : X.A.frames = some X.stack
 stk : X.stack = X.outer ∨ (X.stack = X.env :: X.outer ∧ X.env.frame = some X.env.locals)
 exf : ∀ b ∈ X.ex, b ≠ X.env.locals ∧ ∀ x c, X.env.cells.lookup x = some c → c ≠ b
 bs : ∀ b o, X.base.get? b = some o → X.s₀.heap.get? b = some o ∧ X.H₀ b = none
 bsz : X.base.objs.size ≤ X.s₀.heap.objs.size
 noex : ∀ b o, X.base.get? b = some o → b ∉ X.ex
 exfs : ∀ b ∈ X.ex, b ∉ X.fs
 funs : X.s₀.heap.FunFrames X.base X.outer
 frf : ∀ b ∈ X.fs, X.H₀ b = none
structure Inv (X : Cx) (pins : List (Addr × Obj)) (σ : List (Option V)) (H : Hp) (s : Shared) : Prop where
 ok : X.Ok
 os : s.os = X.s₀.os
 bare : AllBare s.gens
 base : Un X.fs X.ex X.H₀ H X.s₀.heap s.heap
 loc : ∃ m, s.heap.Ns X.env.locals m ∧ ∀ (i : Nat) (x : Str) (v : V), X.N[i]? = some x → σ[i]? = some (some v) → Vis X.env.scope x → ∃ u, RelV v u ∧ Look X.env s.heap m x u
 cell : ∀ x c, X.env.cells.lookup x = some c → ∃ v, s.heap.IsCell c v
 free : H X.env.locals = none
 freeC : ∀ x c, X.env.cells.lookup x = some c → H c = none
 pin : ∀ p ∈ X.pn ++ pins, s.heap.get? p.1 = some p.2 ∧ H p.1 = none ∧ p.1 ≠ X.env.locals ∧ p.1 ∉ X.fs ∧ ∀ v, p.2.data ≠ .cell v
 hok : HOk X.prog X.w H s.heap
 len : σ.length = X.N.length
section
variable {X : Cx} {pins : List (Addr × Obj)} {σ : List (Option V)} {H H' : Hp} {s : Shared} {h' : Heap}
theorem Cx.Ok.nofr (ok : X.Ok) {b : Addr} {o : Obj} (e : X.base.get? b = some o) : b ∉ X.fs := fun hb => by
 have := (ok.funs.mem hb).1
 rw [e] at this; cases this
theorem Inv.bs (I : Inv X pins σ H s) : ∀ b o, X.base.get? b = some o → s.heap.get? b = some o ∧ H b = none := fun b o e =>
 ⟨I.base.keep b o (I.ok.bs b o e).1 (I.ok.bs b o e).2 (I.ok.nofr e) (I.ok.noex b o e), I.base.free b o (I.ok.bs b o e).1 (I.ok.bs b o e).2 (I.ok.noex b o e)⟩
theorem Inv.bk (I : Inv X pins σ H s) : ∀ b o, X.base.get? b = some o → s.heap.get? b = some o := fun b o e => (I.bs b o e).1
theorem Inv.mod (I : Inv X pins σ H s) : Mod X.K X.mg X.base := I.ok.mod
theorem Inv.kIn (I : Inv X pins σ H s) : X.K.In s.heap := I.ok.mod.kin.keeps I.bk
theorem Inv.nolimit (I : Inv X pins σ H s) : s.heap.NoLimit := I.ok.mod.nolimit.keeps I.bk
theorem Inv.fr (I : Inv X pins σ H s) : ∃ m, Fr X.base X.env.locals s.heap m :=
 let ⟨m, hn, _⟩ := I.loc
 ⟨m, hn, I.bk, Nat.le_trans I.ok.bsz I.ok.above⟩
theorem Inv.lt (I : Inv X pins σ H s) : X.env.locals < s.heap.objs.size := let ⟨_, hn, _⟩ := I.loc; hn.lt
theorem Inv.sz (I : Inv X pins σ H s) : X.s₀.heap.objs.size ≤ s.heap.objs.size := Nat.le_trans I.ok.above (Nat.le_of_lt I.lt)
theorem Inv.nofs (I : Inv X pins σ H s) {a : Addr} (h : s.heap.objs.size ≤ a) : a ∉ X.fs := fun hb => by
 obtain ⟨_, o, ho, _⟩ := I.ok.funs.mem hb
 exact absurd (Nat.lt_of_lt_of_le (Heap.lt_size ho) (Nat.le_trans I.sz h)) (Nat.lt_irrefl _)
theorem Inv.cne (I : Inv X pins σ H s) : ∀ x c, X.env.cells.lookup x = some c → c ≠ X.env.locals := fun x c e z => by
 obtain ⟨v, o, ho, hd⟩ := I.cell x c e
 obtain ⟨m, ⟨o', es, ep, ho', hd', _⟩, _⟩ := I.loc
 rw [z, ho'] at ho; cases ho; rw [hd'] at hd; cases hd
theorem Inv.funs (I : Inv X pins σ H s) : s.heap.FunFrames X.base X.outer := by
 have all : ∀ (l : List Env), (∀ b ∈ frs l, b ∈ X.fs) → X.s₀.heap.FunFrames X.base l → s.heap.FunFrames X.base l := by
  intro l
  induction l with
  | nil => intro _ _; trivial
  | cons env r ih =>
   intro hs hl
   obtain ⟨hk, ⟨L, o, hf, hn, ho, hd⟩, hr⟩ := hl
   have hL : L ∈ X.fs := hs L (by unfold frs; rw [List.filterMap_cons, hf]; exact List.mem_cons_self)
   obtain ⟨sl, e⟩ := I.base.slot L o ho (I.ok.frf L hL) hL fun z => I.ok.exfs L z hL
   exact ⟨hk, ⟨L, _, hf, hn, e, hd⟩, ih (fun b hb => hs b (by unfold frs; rw [List.filterMap_cons, hf]; exact List.mem_cons_of_mem _ hb)) hr⟩
 exact all X.outer (fun _ hb => hb) I.ok.funs
theorem Inv.stack (I : Inv X pins σ H s) : s.heap.FunFrames X.base X.stack := by
 rcases I.ok.stk with e | ⟨e, hf⟩
 ·rw [e]; exact I.funs
 ·rw [e]
  obtain ⟨m, hn, _⟩ := I.loc
  refine .cons (by rw [I.ok.kind]; decide) hf hn ?_ I.funs
  exact Heap.get?_none_of_le (Nat.le_trans I.ok.bsz I.ok.above)
theorem Inv.stkSub (I : Inv X pins σ H s) : ∀ b ∈ frs X.stack, b ∈ X.env.locals :: X.fs := fun b hb => by
 rcases I.ok.stk with e | ⟨e, hf⟩
 ·rw [e] at hb; exact List.mem_cons_of_mem _ hb
 ·rw [e] at hb
  unfold frs at hb
  rw [List.filterMap_cons, hf] at hb
  exact hb
theorem Inv.stkFree (I : Inv X pins σ H s) : ∀ b ∈ frs X.stack, H b = none := fun b hb => by
 rcases List.mem_cons.mp (I.stkSub b hb) with e | hb
 ·rw [e]; exact I.free
 ·obtain ⟨_, o, ho, _⟩ := I.ok.funs.mem hb
  exact I.base.free b o ho (I.ok.frf b hb) fun z => I.ok.exfs b z hb
theorem Inv.step {g' : Array GenState} {t' : Nat} {d' : Drawn} {ch : List Addr} (I : Inv X pins σ H s)
  (hch : ∀ b ∈ ch, (b ∈ X.ex ∨ X.s₀.heap.objs.size ≤ b) ∧ b ≠ X.env.locals ∧ (∀ x c, X.env.cells.lookup x = some c → c ≠ b) ∧ ∀ p ∈ X.pn ++ pins, p.1 ≠ b)
  (keep : ∀ b o, b ≠ X.env.locals → b ∉ X.fs → b ∉ ch → s.heap.get? b = some o → H b = none → h'.get? b = some o)
  (slot : ∀ b o, b ≠ X.env.locals → b ∈ X.fs → b ∉ ch → s.heap.get? b = some o → H b = none → ∃ sl, h'.get? b = some { o with slots := sl }) (free : ∀ b o, b ∉ ch → s.heap.get? b = some o → H b = none → H' b = none)
  (there : ∀ b o, b ∉ ch → s.heap.get? b = some o → ∃ o', h'.get? b = some o')
  (tups : ∀ b xs, H b = some (.tup xs) → H' b = some (.tup xs)) (frzs : ∀ b o u, H b = some (.frz o u) → H' b = some (.frz o u)) (tbls : ∀ b ps, H b = some (.tbl ps) → ∃ more, H' b = some (.tbl (ps ++ more)))
  (ns : ∀ m, s.heap.Ns X.env.locals m → h'.Ns X.env.locals m) (hok : HOk X.prog X.w H' h') (hg : AllBare g') :
  Inv X pins σ H' { s with heap := h', gens := g', drawn := d', toks := t' } := by
 have neL : ∀ b o, X.s₀.heap.get? b = some o → b ≠ X.env.locals := fun b o e => Nat.ne_of_lt (Nat.lt_of_lt_of_le (Heap.lt_size e) I.ok.above)
 have neC : ∀ b o, X.s₀.heap.get? b = some o → b ∉ X.ex → b ∉ ch := fun b o e hx hb => by
  rcases (hch b hb).1 with z | z
  ·exact hx z
  ·exact absurd (Nat.lt_of_lt_of_le (Heap.lt_size e) z) (Nat.lt_irrefl _)
 have cellK : ∀ x c, X.env.cells.lookup x = some c → ∀ v, s.heap.IsCell c v → h'.IsCell c v := fun x c e v ⟨o, ho, hd⟩ => by
  have nch : c ∉ ch := fun z => (hch c z).2.2.1 x c e rfl
  by_cases hc : c ∈ X.fs
  ·obtain ⟨sl, q⟩ := slot c o (I.cne x c e) hc nch ho (I.freeC x c e)
   exact ⟨_, q, hd⟩
  ·exact ⟨o, keep c o (I.cne x c e) hc nch ho (I.freeC x c e), hd⟩
 refine ⟨I.ok, I.os, hg, ⟨fun b o e n hb hx => ?_, fun b o e n hb hx => ?_, fun b o e n hx => ?_, fun b o e hx => ?_, fun b xs e => tups b xs (I.base.tups b xs e), fun b o xs e => frzs b o xs (I.base.frzs b o xs e), fun b ps e => ?_⟩, ?_, fun x c e => ?_, ?_, fun x c e => ?_, fun p hp => ?_, hok, I.len⟩
 ·exact keep b o (neL b o e) hb (neC b o e hx) (I.base.keep b o e n hb hx) (I.base.free b o e n hx)
 ·obtain ⟨sl, e1⟩ := I.base.slot b o e n hb hx
  obtain ⟨sl', e2⟩ := slot b _ (neL b o e) hb (neC b o e hx) e1 (I.base.free b o e n hx)
  exact ⟨sl', e2⟩
 ·obtain ⟨o', e1⟩ := I.base.there b o e hx
  exact free b o' (neC b o e hx) e1 (I.base.free b o e n hx)
 ·obtain ⟨o', e1⟩ := I.base.there b o e hx
  exact there b o' (neC b o e hx) e1
 ·obtain ⟨m1, e1⟩ := I.base.tbls b ps e
  obtain ⟨m2, e2⟩ := tbls b _ e1
  exact ⟨m1 ++ m2, by rw [e2, Array.append_assoc]⟩
 ·obtain ⟨m, hn, hl⟩ := I.loc
  refine ⟨m, ns m hn, fun i x v e1 e2 e3 => ?_⟩
  obtain ⟨u, r, l⟩ := hl i x v e1 e2 e3
  refine ⟨u, r, ?_⟩
  rcases l with l | ⟨k, c, e, z⟩
  ·exact .inl l
  ·exact .inr ⟨k, c, e, cellK x c e _ z⟩
 ·obtain ⟨v, z⟩ := I.cell x c e
  exact ⟨v, cellK x c e v z⟩
 ·obtain ⟨m, ⟨o, _, _, ho, _⟩, _⟩ := I.loc
  exact free _ o (fun z => (hch _ z).2.1 rfl) ho I.free
 ·obtain ⟨v, o, ho, hd⟩ := I.cell x c e
  exact free c o (fun z => (hch c z).2.2.1 x c e rfl) ho (I.freeC x c e)
 ·obtain ⟨e, n, ne, nf, d⟩ := I.pin p hp
  have nch : p.1 ∉ ch := fun z => (hch p.1 z).2.2.2 p hp rfl
  exact ⟨keep p.1 p.2 ne nf nch e n, free p.1 p.2 nch e n, ne, nf, d⟩
theorem Inv.un {t' : Nat} (I : Inv X pins σ H s) (u : Un X.fs [] H H' s.heap h') (hok : HOk X.prog X.w H' h') : Inv X pins σ H' { s with heap := h', toks := t' } := by
 obtain ⟨m, ⟨o, es, ep, ho, r⟩, _⟩ := id I.loc
 obtain ⟨sl, hL⟩ := u.any ho I.free (by simp)
 exact I.step (g' := s.gens) (d' := s.drawn) (ch := []) (fun _ z => nomatch z) (fun b o _ hb _ e n => u.keep b o e n hb (by simp)) (fun b o _ hb _ e n => u.slot b o e n hb (by simp)) (fun b o _ e n => u.free b o e n (by simp)) (fun b o _ e => u.there b o e (by simp)) u.tups u.frzs u.tbls (fun m' hm => by
  obtain ⟨o', es', ep', ho', r'⟩ := hm
  rw [ho] at ho'; cases ho'
  exact ⟨_, es', ep', hL, r'⟩) hok I.bare
theorem Inv.call {g' : Array GenState} {t' : Nat} {d' : Drawn} {ch : List Addr} (I : Inv X pins σ H s) (u : Un (frs X.stack) ch H H' s.heap h') (hok : HOk X.prog X.w H' h') (hg : AllBare g')
  (hch : ∀ b ∈ ch, (b ∈ X.ex ∨ X.s₀.heap.objs.size ≤ b) ∧ b ≠ X.env.locals ∧ (∀ x c, X.env.cells.lookup x = some c → c ≠ b) ∧ ∀ p ∈ X.pn ++ pins, p.1 ≠ b) :
  Inv X pins σ H' { s with heap := h', gens := g', drawn := d', toks := t' } := by
 obtain ⟨m, ⟨o, es, ep, ho, r⟩, _⟩ := id I.loc
 obtain ⟨sl, hL⟩ := u.any ho I.free fun z => (hch _ z).2.1 rfl
 exact I.step (ch := ch) hch (fun b o hL hb hc e n => u.keep b o e n (fun z => (List.mem_cons.mp (I.stkSub b z)).elim hL hb) hc) (fun b o _ _ hc e n => u.any e n hc) (fun b o hc e n => u.free b o e n hc) (fun b o hc e => u.there b o e hc) u.tups u.frzs u.tbls (fun m' hm => by
  obtain ⟨o', es', ep', ho', r'⟩ := hm
  rw [ho] at ho'; cases ho'
  exact ⟨_, es', ep', hL, r'⟩) hok hg
theorem Inv.turned {t' : Nat} {it : Addr} (I : Inv X pins σ H s) (k : ∀ b o, b ≠ it → s.heap.get? b = some o → h'.get? b = some o) (hn : H it = none) (hL : it ≠ X.env.locals)
  (h1 : it ∈ X.ex ∨ X.s₀.heap.objs.size ≤ it) (h2 : ∀ x c, X.env.cells.lookup x = some c → c ≠ it) (h3 : ∀ p ∈ X.pn ++ pins, p.1 ≠ it) : Inv X pins σ H { s with heap := h', toks := t' } := by
 have nit : ∀ b u, H b = some u → b ≠ it := fun b u e z => by rw [z, hn] at e; cases e
 refine I.step (g' := s.gens) (d' := s.drawn) (ch := [it]) (fun b hb => ?_) (fun b o _ _ hc e _ => k b o (fun z => hc (by simp [z])) e) (fun b o _ _ hc e _ => ⟨o.slots, k b o (fun z => hc (by simp [z])) e⟩) (fun _ _ _ _ n => n)
  (fun b o hc e => ⟨o, k b o (fun z => hc (by simp [z])) e⟩) (fun _ _ e => e) (fun _ _ _ e => e) (fun b ps e => ⟨#[], by rw [e]; simp⟩) (fun m hm => ?_) (fun b u e => ?_) I.bare
 ·have e : b = it := by simpa using hb
  subst e
  exact ⟨h1, hL, h2, h3⟩
 ·obtain ⟨o, es, ep, ho, r⟩ := hm
  exact ⟨o, es, ep, k _ o (Ne.symm hL) ho, r⟩
 ·refine (I.hok b u e).stay (fun c v hc q => k c v ?_ q) (fun _ q => q) fun _ _ q => q
  rcases hc with z | z
  ·rw [z]; exact nit b u e
  ·exact nit c _ z
theorem Inv.tok (I : Inv X pins σ H s) (t : Nat) : Inv X pins σ H { s with toks := t } := I.un (h' := s.heap) (t' := t) Un.refl I.hok
theorem Inv.kept {t' : Nat} (I : Inv X pins σ H s) (k : ∀ b u, s.heap.get? b = some u → h'.get? b = some u) : Inv X pins σ H { s with heap := h', toks := t' } := I.un (Un.kept k) (I.hok.kept k)
theorem Inv.laid {a : Addr} {o : HO} {t' : Nat} (I : Inv X pins σ H s) (k : ∀ b u, s.heap.get? b = some u → h'.get? b = some u) (hp : s.heap.objs.size ≤ a) (new : ObjOk X.prog X.w (upd H a o) h' a o) :
  Inv X pins σ (upd H a o) { s with heap := h', toks := t' } := I.un (Un.laid k hp (I.hok.fresh hp)) (I.hok.laid k hp new)
theorem Inv.write {x e : Addr} {o : HO} {t' : Nat} (I : Inv X pins σ H s) (mu : Mut (H x)) (he : e = x ∨ H e = some (.own x)) (k : ∀ b u, b ≠ e → s.heap.get? b = some u → h'.get? b = some u) (heo : ∃ u, h'.get? e = some u)
  (new : ObjOk X.prog X.w (upd H x o) h' x o) : Inv X pins σ (upd H x o) { s with heap := h', toks := t' } := I.un (Un.write mu he k heo) (I.hok.write mu he k heo new)
theorem Inv.weak {σ' : List (Option V)} (I : Inv X pins σ H s) (hl : σ'.length = σ.length) (w : ∀ (i : Nat) v, σ'[i]? = some (some v) → σ[i]? = some (some v)) : Inv X pins σ' H s :=
 ⟨I.ok, I.os, I.bare, I.base, let ⟨m, hn, hl'⟩ := I.loc; ⟨m, hn, fun i x v e1 e2 e3 => hl' i x v e1 (w i v e2) e3⟩, I.cell, I.free, I.freeC, I.pin, I.hok, hl.trans I.len⟩
theorem Inv.pins_of {pins' : List (Addr × Obj)} (I : Inv X pins σ H s) (h : ∀ p ∈ pins', s.heap.get? p.1 = some p.2 ∧ H p.1 = none ∧ p.1 ≠ X.env.locals ∧ p.1 ∉ X.fs ∧ ∀ v, p.2.data ≠ .cell v) : Inv X pins' σ H s :=
 ⟨I.ok, I.os, I.bare, I.base, I.loc, I.cell, I.free, I.freeC, fun p hp => (List.mem_append.mp hp).elim (fun z => I.pin p (List.mem_append_left _ z)) (h p), I.hok, I.len⟩
theorem nodup_ix {N : List Str} (hN : N.Nodup) {i j : Nat} {x : Str} (a : N[i]? = some x) (b : N[j]? = some x) : i = j := by
 obtain ⟨h1, e1⟩ := List.getElem?_eq_some_iff.mp a
 obtain ⟨h2, e2⟩ := List.getElem?_eq_some_iff.mp b
 exact (List.getElem_inj hN).mp (e1.trans e2.symm)
theorem store_ok2 {M : Model} {A : Around} {E : Value → Shared → Prop} {i : Nat} {x : Str} {v : V} {u : Value} {Q : Unit → Shared → Prop} (I : Inv X pins σ H s) (hN : X.N.Nodup) (hi : X.N[i]? = some x) (hx : Loc X.env.scope x) (r : RelV v u)
  (h : ∀ s', Inv X pins (σ.set i (some v)) H s' → (∃ a, Heap.SameBut a s.heap s'.heap ∧ (a = X.env.locals ∨ X.env.cells.lookup x = some a)) → Q () s') (hf : X.fn x = true ∨ X.env.scope.names.lookup x = some .local := by first | exact .inl rfl | exact .inr rfl | assumption) : wpAny M A (storeName X.env x u) Q E s := by
 obtain ⟨m, hn, hl⟩ := id I.loc
 have hcls : (X.env.scope.kind == .class || (X.env.scope.kind == .module && X.env.locals != X.env.globals)) = false := by rw [I.ok.kind]; rfl
 have hiσ : i < σ.length := by rw [I.len]; exact (List.getElem?_eq_some_iff.mp hi).1
 have cne := I.cne
 have tracked : ∀ {a : Addr} {h' : Heap}, (∃ o, s.heap.get? a = some o ∧ H a = none) → Heap.SameBut a s.heap h' → HOk X.prog X.w H h' := fun {a h'} ha hs b ob e => by
  obtain ⟨_, _, hfree⟩ := ha
  refine (I.hok b ob e).stay (fun c w' hc q => (hs.2 c ?_).trans q) (fun _ q => q) fun _ _ q => q
  rintro rfl
  rcases hc with rfl | hc
  ·rw [hfree] at e; cases e
  ·rw [hfree] at hc; cases hc
 rcases hx with hk | hk
 ·refine wpAny_storeName_local hk hn (fun h' hn' hs => ?_) hcls
  obtain ⟨oL, _, _, hoL, _⟩ := id hn
  refine h _ ⟨I.ok, I.os, I.bare, ⟨fun b o e n hb hx => ?_, fun b o e n hb hx => ?_, I.base.free, fun b o e hx => ?_, I.base.tups, I.base.frzs, I.base.tbls⟩, ⟨_, hn', fun j y v' e1 e2 e3 => ?_⟩, fun y c e => ?_, I.free, I.freeC, fun p hp => ?_, tracked ⟨oL, hoL, I.free⟩ hs, by simpa using I.len⟩ ⟨_, hs, .inl rfl⟩
  ·exact (hs.2 b (Nat.ne_of_lt (Nat.lt_of_lt_of_le (Heap.lt_size e) I.ok.above))).trans (I.base.keep b o e n hb hx)
  ·obtain ⟨sl, e1⟩ := I.base.slot b o e n hb hx
   exact ⟨sl, (hs.2 b (Nat.ne_of_lt (Nat.lt_of_lt_of_le (Heap.lt_size e) I.ok.above))).trans e1⟩
  ·obtain ⟨o', e1⟩ := I.base.there b o e hx
   exact ⟨o', (hs.2 b (Nat.ne_of_lt (Nat.lt_of_lt_of_le (Heap.lt_size e) I.ok.above))).trans e1⟩
  ·by_cases hj : j = i
   ·subst hj
    rw [hi] at e1; cases e1
    rw [List.getElem?_set_self hiσ] at e2
    cases e2
    exact ⟨u, r, .inl ⟨hk, by simp⟩⟩
   ·rw [List.getElem?_set_ne (Ne.symm hj)] at e2
    obtain ⟨u', r', q⟩ := hl j y v' e1 e2 e3
    refine ⟨u', r', ?_⟩
    rcases q with ⟨k, e⟩ | ⟨k, c, e, z⟩
    ·refine .inl ⟨k, ?_⟩
     have : y ≠ x := fun e => hj (nodup_ix hN e1 (e ▸ hi))
     simp [this, e]
    ·exact .inr ⟨k, c, e, z.sameBut hs (cne y c e)⟩
  ·obtain ⟨w', z⟩ := I.cell y c e
   exact ⟨w', z.sameBut hs (cne y c e)⟩
  ·obtain ⟨e, n, ne, nf, d⟩ := I.pin p hp
   exact ⟨(hs.2 p.1 ne).trans e, n, ne, nf, d⟩
 ·have hfn : X.fn x = true := by
   rcases hf with z | z
   ·exact z
   ·rw [z] at hk; cases hk
  obtain ⟨c, hc⟩ := I.ok.has x (.inl hk)
  obtain ⟨w', z⟩ := I.cell x c hc
  refine wpAny_storeName_cell I.ok.kind hk hc z (fun h' hc' hs => ?_)
  obtain ⟨oc, hoc, hocd⟩ := id z
  refine h { s with heap := h' } ⟨I.ok, I.os, I.bare, ⟨fun b o e n hb hx => ?_, fun b o e n hb hx => ?_, I.base.free, fun b o e hx => ?_, I.base.tups, I.base.frzs, I.base.tbls⟩, ⟨m, hn.sameBut hs (Ne.symm (cne x c hc)), fun j y v' e1 e2 e3 => ?_⟩, fun y c' e => ?_, I.free, I.freeC, fun p hp => ?_, tracked ⟨oc, hoc, I.freeC x c hc⟩ hs, by simpa using I.len⟩ ⟨c, hs, .inr hc⟩
  ·exact (hs.2 b (Nat.ne_of_lt (Nat.lt_of_lt_of_le (Heap.lt_size e) (I.ok.cab x c hfn hc)))).trans (I.base.keep b o e n hb hx)
  ·obtain ⟨sl, e1⟩ := I.base.slot b o e n hb hx
   exact ⟨sl, (hs.2 b (Nat.ne_of_lt (Nat.lt_of_lt_of_le (Heap.lt_size e) (I.ok.cab x c hfn hc)))).trans e1⟩
  ·obtain ⟨o', e1⟩ := I.base.there b o e hx
   exact ⟨o', (hs.2 b (Nat.ne_of_lt (Nat.lt_of_lt_of_le (Heap.lt_size e) (I.ok.cab x c hfn hc)))).trans e1⟩
  ·by_cases hj : j = i
   ·subst hj
    rw [hi] at e1; cases e1
    rw [List.getElem?_set_self hiσ] at e2
    cases e2
    exact ⟨u, r, .inr ⟨.inl hk, c, hc, hc'⟩⟩
   ·rw [List.getElem?_set_ne (Ne.symm hj)] at e2
    obtain ⟨u', r', q⟩ := hl j y v' e1 e2 e3
    refine ⟨u', r', ?_⟩
    rcases q with q | ⟨k, c', e, z'⟩
    ·exact .inl q
    ·refine .inr ⟨k, c', e, z'.sameBut hs ?_⟩
     rintro rfl
     exact hj (nodup_ix hN e1 (I.ok.inj _ _ _ e hc ▸ hi))
  ·by_cases hcc : c' = c
   ·subst hcc; exact ⟨_, hc'⟩
   ·obtain ⟨w2, z2⟩ := I.cell y c' e
    exact ⟨w2, z2.sameBut hs hcc⟩
  ·obtain ⟨e, n, ne, nf, d⟩ := I.pin p hp
   refine ⟨(hs.2 p.1 ?_).trans e, n, ne, nf, d⟩
   intro q
   rw [q, hoc] at e
   have q' : oc = p.2 := Option.some.inj e
   exact d w' (by rw [← q']; exact hocd)
theorem store_ok {M : Model} {A : Around} {E : Value → Shared → Prop} {i : Nat} {x : Str} {v : V} {u : Value} {Q : Unit → Shared → Prop} (I : Inv X pins σ H s) (hN : X.N.Nodup) (hi : X.N[i]? = some x) (hx : Loc X.env.scope x) (r : RelV v u)
  (h : ∀ s', Inv X pins (σ.set i (some v)) H s' → Q () s') (hf : X.fn x = true ∨ X.env.scope.names.lookup x = some .local := by first | exact .inl rfl | exact .inr rfl | assumption) : wpAny M A (storeName X.env x u) Q E s :=
 store_ok2 I hN hi hx r (fun s' I' _ => h s' I') hf
theorem Inv.call' {s' : Shared} {ch : List Addr} (I : Inv X pins σ H s) (ho : s'.os = s.os) (u : Un (frs X.stack) ch H H' s.heap s'.heap) (hok : HOk X.prog X.w H' s'.heap) (hg : AllBare s'.gens)
  (hch : ∀ b ∈ ch, (b ∈ X.ex ∨ X.s₀.heap.objs.size ≤ b) ∧ b ≠ X.env.locals ∧ (∀ x c, X.env.cells.lookup x = some c → c ≠ b) ∧ ∀ p ∈ X.pn ++ pins, p.1 ≠ b) : Inv X pins σ H' s' := by
 obtain ⟨h', g', d', t', o'⟩ := s'
 have e : o' = s.os := ho
 subst e
 exact I.call (g' := g') (t' := t') (d' := d') u hok hg hch
end
noncomputable abbrev XK := Value → Option Addr → Hp → Prop
noncomputable abbrev St := List (Option V)
noncomputable abbrev VK := V → Hp → Prop
noncomputable abbrev TE := St → Hp → VK → Prop
noncomputable abbrev TT := St → Hp → (Bool → Hp → Prop) → Prop
noncomputable abbrev TA := St → Hp → (List V → Hp → Prop) → Prop
structure Ends where
 nx : St → Hp → Prop
 rt : VK
 bk : St → Hp → Prop := fun _ _ => False
 ct : St → Hp → Prop := fun _ _ => False
noncomputable abbrev TS := Ends → St → Hp → Prop
noncomputable def EP (X : Cx) (pins : List (Addr × Obj)) (σ : St) (Q : VK) (u : Value) (s' : Shared) : Prop := ∃ v H', Inv X pins σ H' s' ∧ RelV v u ∧ Q v H'
noncomputable def TP (X : Cx) (pins : List (Addr × Obj)) (σ : St) (Q : Bool → Hp → Prop) (b : Bool) (s' : Shared) : Prop := ∃ H', Inv X pins σ H' s' ∧ Q b H'
noncomputable def AP (X : Cx) (pins : List (Addr × Obj)) (σ : St) (Q : List V → Hp → Prop) (us : List Value) (s' : Shared) : Prop := ∃ vs H', Inv X pins σ H' s' ∧ Vals vs us ∧ Q vs H'
noncomputable def SP (X : Cx) (pins : List (Addr × Obj)) (D : Ends) (f : Flow) (s' : Shared) : Prop :=
 match f with
 | .next => ∃ σ' H', Inv X pins σ' H' s' ∧ D.nx σ' H'
 | .brk => ∃ σ' H', Inv X pins σ' H' s' ∧ D.bk σ' H'
 | .cont => ∃ σ' H', Inv X pins σ' H' s' ∧ D.ct σ' H'
 | .ret u => ∃ v σ' H', Inv X pins σ' H' s' ∧ RelV v u ∧ D.rt v H'
noncomputable def PE (X : Cx) (e : Expr) (t : TE) : Prop :=
 ∀ (pins : List (Addr × Obj)) (s : Shared) (σ : St) (H : Hp) (Q : VK), Inv X pins σ H s → t σ H Q → wpAny (model X.prog X.w) X.A (eval e X.env) (EP X pins σ Q) X.xe s
noncomputable def PT (X : Cx) (e : Expr) (t : TT) : Prop :=
 ∀ (pins : List (Addr × Obj)) (s : Shared) (σ : St) (H : Hp) (Q : Bool → Hp → Prop), Inv X pins σ H s → t σ H Q → wpAny (model X.prog X.w) X.A (isTrue e X.env (eval e X.env)) (TP X pins σ Q) X.xe s
noncomputable def PW (X : Cx) (e : Expr) (t : TT) : Prop :=
 ∀ (whole : Sem Value) (pins : List (Addr × Obj)) (s : Shared) (σ : St) (H : Hp) (Q : Bool → Hp → Prop), Inv X pins σ H s → t σ H Q → wpAny (model X.prog X.w) X.A (isTrue e X.env whole) (TP X pins σ Q) X.xe s
theorem PW.pt {X : Cx} {e : Expr} {t : TT} (h : PW X e t) : PT X e t := h _
noncomputable def PA (X : Cx) (es : List Expr) (t : TA) : Prop :=
 ∀ (pos : Pos) (pins : List (Addr × Obj)) (s : Shared) (σ : St) (H : Hp) (Q : List V → Hp → Prop), Inv X pins σ H s → t σ H Q → wpAny (model X.prog X.w) X.A (spliced (backTo pos (starEach es X.env))) (AP X pins σ Q) X.xe s
noncomputable def PS (X : Cx) (st : Stmt) (t : TS) : Prop :=
 ∀ (pins : List (Addr × Obj)) (s : Shared) (σ : St) (H : Hp) (D : Ends), Inv X pins σ H s → t D σ H → wpAny (model X.prog X.w) X.A (exec st X.env) (SP X pins D) X.xe s
noncomputable def PSs (X : Cx) (st : List Stmt) (t : TS) : Prop :=
 ∀ (pins : List (Addr × Obj)) (s : Shared) (σ : St) (H : Hp) (D : Ends), Inv X pins σ H s → t D σ H → wpAny (model X.prog X.w) X.A (execs st X.env) (SP X pins D) X.xe s
theorem thn {α : Type} {t : Sem α} {Q Q' : α → Shared → Prop} {M : Model} {A : Around} {E : Value → Shared → Prop} {s : Shared} (h : wpAny M A t Q E s) (hQ : ∀ a s, Q a s → Q' a s) : wpAny M A t Q' E s := wpAny_mono h hQ fun _ _ x => x
end L2
namespace L2
open PySem PySem.Spec PyProof.Rows
section
variable {X : Cx}
noncomputable def tVar (i : Nat) : TE := fun σ H Q => ∃ v, σ[i]? = some (some v) ∧ Q v H
noncomputable def tC (v : V) : TE := fun _ H Q => Q v H
theorem pe_var {i : Nat} {x : Str} {pos : Pos} (hN : X.N[i]? = some x) (hv : Vis X.env.scope x) (hd : (x == ("__debug__" : Str)) = false := by decide) (hcd : (x == ("__classdict__" : Str)) = false := by decide) : PE X (.Name x pos) (tVar i) := by
 intro pins s σ H Q I h
 obtain ⟨v, e, h⟩ := h
 obtain ⟨m, hn, hl⟩ := I.loc
 obtain ⟨u, r, l⟩ := hl i x v hN e hv
 have fin : EP X pins σ Q u s := ⟨v, H, I, r, h⟩
 rcases l with ⟨hk, hm⟩ | ⟨hk, c, hc, hcell⟩
 ·exact wpAny_Name (wpAny_loadName_local I.ok.kind hk hn hm fin) hd
 ·rcases hk with hk | hk
  ·exact wpAny_Name (wpAny_loadName_cell I.ok.kind hk hc hcell fin) hd
  ·exact wpAny_Name (wpAny_loadName_free I.ok.kind hk hc hcell fin hcd) hd
theorem pe_int {i j pos} : PE X (.Constant (.int i) j pos) (tC (.int i)) := fun _ _ _ H _ I h => wpAny_Constant_int ⟨.int i, H, I.tok _, ⟨_, rfl⟩, h⟩
theorem pe_bl {b j pos} : PE X (.Constant (.bool b) j pos) (tC (.bl b)) := fun _ _ _ H _ I h => Constant_bool ⟨.bl b, H, I, rfl, h⟩
theorem pe_non {j pos} : PE X (.Constant .none j pos) (tC .non) := fun _ _ _ H _ I h => Constant_none ⟨.non, H, I, rfl, h⟩
theorem pe_str {x j pos} : PE X (.Constant (.str x) j pos) (tC (.str x)) := fun _ _ _ H _ I h => Calls.Constant_str ⟨.str x, H, I.tok _, ⟨_, rfl⟩, h⟩
noncomputable def Gl (X : Cx) (x : Str) : Prop := X.env.kindOf x = some .globalImplicit
theorem ld_glob {E : Value → Shared → Prop} {pins : List (Addr × Obj)} {s : Shared} {σ : St} {H : Hp} {x : Str} {u : Value} {pos : Pos} {Q : Value → Shared → Prop} (I : Inv X pins σ H s) (hg : Gl X x) (hm : X.mg x = some u) (h : Q u s)
  (hd : (x == ("__debug__" : Str)) = false := by decide) : wpAny (model X.prog X.w) X.A (eval (.Name x pos) X.env) Q E s :=
 Calls.Name_function_global I.ok.kind hg (Calls.loadGlobal_global (by rw [I.ok.glob]; exact I.mod.glob.keeps I.bk) hm h) hd
theorem ld_blt {E : Value → Shared → Prop} {pins : List (Addr × Obj)} {s : Shared} {σ : St} {H : Hp} {x : Str} {u : Value} {pos : Pos} {Q : Value → Shared → Prop} (I : Inv X pins σ H s) (hg : Gl X x) (hm : X.mg x = none) (hv : bootBuiltins x = some u) (h : Q u s)
  (hn : x ≠ "__name__" := by decide) (hd : (x == ("__debug__" : Str)) = false := by decide) : wpAny (model X.prog X.w) X.A (eval (.Name x pos) X.env) Q E s := by
 obtain ⟨mb, h1, h2⟩ := I.mod.blt
 exact Calls.Name_function_global I.ok.kind hg (Calls.loadGlobal_builtin (by rw [I.ok.glob]; exact I.mod.glob.keeps I.bk) hm (by rw [I.ok.blt]; exact h1.keeps I.bk) ((h2 x hn).trans hv) h) hd
theorem pe_glob {x : Str} {v : V} {u : Value} {pos : Pos} (hg : Gl X x) (hm : X.mg x = some u) (r : RelV v u) (hd : (x == ("__debug__" : Str)) = false := by decide) : PE X (.Name x pos) (tC v) :=
 fun _ _ _ H _ I h => ld_glob I hg hm ⟨v, H, I, r, h⟩ hd
theorem pe_bltn {x : Str} {v : V} {u : Value} {pos : Pos} (hg : Gl X x) (hm : X.mg x = none) (hv : bootBuiltins x = some u) (r : RelV v u) (hn : x ≠ "__name__" := by decide) (hd : (x == ("__debug__" : Str)) = false := by decide) : PE X (.Name x pos) (tC v) :=
 fun _ _ _ H _ I h => ld_blt I hg hm hv ⟨v, H, I, r, h⟩ hn hd
variable {a b : Expr} {ta tb : TE} {pos : Pos}
noncomputable def tIsN (ta : TE) : TE := fun σ H Q => ta σ H fun x H1 => Q (.bl (decide (x = .non))) H1
noncomputable def tNotN (ta : TE) : TE := fun σ H Q => ta σ H fun x H1 => Q (.bl (!decide (x = .non))) H1
noncomputable def tB (t : TE) : TT := fun σ H Q => t σ H fun x H1 => ∃ c, x = .bl c ∧ Q c H1
variable {tA tB' : TT} {rest : List Expr}
noncomputable def tAnd (t u : TT) : TT := fun σ H Q => t σ H fun c H1 => if c = true then u σ H1 Q else Q false H1
noncomputable def tOr (t u : TT) : TT := fun σ H Q => t σ H fun c H1 => if c = true then Q true H1 else u σ H1 Q
noncomputable def tNot (t : TT) : TT := fun σ H Q => t σ H fun c H1 => Q (!c) H1
theorem pw_and1 (ha : PT X a tA) : PW X (.BoolOp .And [a] pos) tA := by
 intro wh pins s σ H Q I h
 refine isTrue_and (thn (ha pins s σ H Q I h) fun c s1 e => ?_)
 cases c with
 | true => exact isTrue_and_nil e
 | false => exact e
theorem pw_or1 (ha : PT X a tA) : PW X (.BoolOp .Or [a] pos) tA := by
 intro wh pins s σ H Q I h
 refine isTrue_or (thn (ha pins s σ H Q I h) fun c s1 e => ?_)
 cases c with
 | false => exact isTrue_or_nil e
 | true => exact e
theorem pw_and (ha : PT X a tA) (hb : PW X (.BoolOp .And (b :: rest) pos) tB') : PW X (.BoolOp .And (a :: b :: rest) pos) (tAnd tA tB') := by
 intro wh pins s σ H Q I h
 refine isTrue_and (thn (ha pins s σ H _ I h) fun c s1 ⟨H1, I1, q1⟩ => ?_)
 cases c with
 | true => exact hb wh pins s1 σ H1 Q I1 q1
 | false => exact ⟨H1, I1, q1⟩
theorem pw_or (ha : PT X a tA) (hb : PW X (.BoolOp .Or (b :: rest) pos) tB') : PW X (.BoolOp .Or (a :: b :: rest) pos) (tOr tA tB') := by
 intro wh pins s σ H Q I h
 refine isTrue_or (thn (ha pins s σ H _ I h) fun c s1 ⟨H1, I1, q1⟩ => ?_)
 cases c with
 | true => exact ⟨H1, I1, q1⟩
 | false => exact hb wh pins s1 σ H1 Q I1 q1
theorem pt_not (ha : PT X a tA) : PT X (.UnaryOp .Not a pos) (tNot tA) := by
 intro pins s σ H Q I h
 exact isTrue_not (ha pins s σ H (fun c H1 => Q (!c) H1) I h)
noncomputable def tAndV (ta tb : TE) : TE := fun σ H Q => ta σ H fun x H1 => ∃ c, x = .bl c ∧ if c = true then tb σ H1 Q else Q (.bl false) H1
noncomputable def tOrV (ta tb : TE) : TE := fun σ H Q => ta σ H fun x H1 => ∃ c, x = .bl c ∧ if c = true then Q (.bl true) H1 else tb σ H1 Q
noncomputable def tNotV (ta : TE) : TE := fun σ H Q => ta σ H fun x H1 => ∃ c, x = .bl c ∧ Q (.bl (!c)) H1
noncomputable def tIf (t : TT) (ta tb : TE) : TE := fun σ H Q => t σ H fun c H1 => if c = true then ta σ H1 Q else tb σ H1 Q
end
end L2
namespace L2
open PySem PySem.Spec PyProof.Rows
noncomputable def SqL (K : PySem.W.Frag) (H : Hp) (a : Addr) (xs : List V) : Prop :=
 Rd H a (.lst xs) ∨
  ∃ (o : Obj) (its : Array Value) (n : Nat), K.lookup a = some o ∧ o.cls = .type "list" ∧ o.dict = none ∧ o.data = .seq its n ∧ its.size ≤ sizeLine ∧ Vals xs its.toList
noncomputable def SqT (K : PySem.W.Frag) (H : Hp) (a : Addr) (xs : List V) : Prop :=
 Rd H a (.tup xs) ∨
  ∃ (o : Obj) (its : Array Value) (n : Nat), K.lookup a = some o ∧ o.cls = .type "tuple" ∧ o.data = .seq its n ∧ its.size ≤ sizeLine ∧ Vals xs its.toList
noncomputable def absV : Value → Option V
 | .none => some .non
 | .bool b => some (.bl b)
 | .int i _ => some (.int i)
 | .str x _ => some (.str x)
 | .bytes b _ => some (.byt b)
 | .float b _ => some (.flt b)
 | .ref a => some (.ref a)
 | .type n => some (.ty n)
 | _ => none
theorem RelV.abs {x : V} {u : Value} (r : RelV x u) : absV u = some x := by
 cases x with
 | non => cases r; rfl
 | bl _ => cases r; rfl
 | int _ => obtain ⟨t, rfl⟩ := r; rfl
 | str _ => obtain ⟨t, rfl⟩ := r; rfl
 | byt _ => obtain ⟨t, rfl⟩ := r; rfl
 | flt _ => obtain ⟨t, rfl⟩ := r; rfl
 | ref _ => cases r; rfl
 | ty _ => cases r; rfl
theorem RelV.inj {x y : V} {u : Value} (r : RelV x u) (q : RelV y u) : x = y := Option.some.inj (r.abs.symm.trans q.abs)
theorem Vals.inj : ∀ {xs ys : List V} {us : List Value}, Vals xs us → Vals ys us → xs = ys
 | _, _, _, .nil, .nil => rfl
 | _, _, _, .cons r t, .cons r' t' => by rw [r.inj r', Vals.inj t t']
section
variable {X : Cx} {pins : List (Addr × Obj)} {σ : St} {H : Hp} {s : Shared} {a : Addr} {xs ys : List V}
theorem SqL.of {K : PySem.W.Frag} (h : H a = some (.lst xs)) : SqL K H a xs := .inl (.inl h)
theorem SqT.of {K : PySem.W.Frag} (h : H a = some (.tup xs)) : SqT K H a xs := .inl (.inl h)
theorem Inv.list (I : Inv X pins σ H s) (h : SqL X.K H a xs) : ∃ its : List Value, Vals xs its ∧ PlainL s.heap a its.toArray ∧ xs.length ≤ sizeLine := by
 rcases h with h | ⟨o, its, n, hk, hc, hd, hs, hz, r⟩
 ·obtain ⟨z, its, n, r, e⟩ := h.ok I.hok
  exact ⟨its, r, ⟨_, n, e, rfl, rfl, rfl⟩, z⟩
 ·refine ⟨its.toList, r, ⟨o, n, I.kIn a o hk, hc, hd, by simpa using hs⟩, ?_⟩
  have e := r.length
  simp only [Array.length_toList] at e
  omega
theorem Inv.tuple (I : Inv X pins σ H s) (h : SqT X.K H a xs) : ∃ its : List Value, Vals xs its ∧ IsTup s.heap a its.toArray ∧ xs.length ≤ sizeLine := by
 rcases h with h | ⟨o, its, n, hk, hc, hs, hz, r⟩
 ·obtain ⟨z, its, r, p⟩ := h.ok I.hok
  exact ⟨its, r, p, z⟩
 ·refine ⟨its.toList, r, ⟨o, I.kIn a o hk, hc, n, by simpa using hs⟩, ?_⟩
  have e := r.length
  simp only [Array.length_toList] at e
  omega
theorem Inv.list_inj (I : Inv X pins σ H s) (h : SqL X.K H a xs) (h' : SqL X.K H a ys) : xs = ys := by
 obtain ⟨its, r, ⟨o, n, e, _, _, d⟩, _⟩ := I.list h
 obtain ⟨its', r', ⟨o', n', e', _, _, d'⟩, _⟩ := I.list h'
 rw [e] at e'; cases e'
 rw [d] at d'
 injection d' with d1 _
 have : its = its' := by simpa using congrArg Array.toList d1
 subst this
 exact r.inj r'
end
noncomputable abbrev Cx.wish (X : Cx) (E : Value → Shared → Prop) : Cx := { X with xe := E }
noncomputable abbrev Cx.nox (X : Cx) : Cx := X.wish fun _ _ => False
theorem Cx.Ok.wish {X : Cx} (ok : X.Ok) (E : Value → Shared → Prop) : (X.wish E).Ok :=
 ⟨ok.mod, ok.kind, ok.glob, ok.blt, ok.above, ok.inj, ok.has, ok.cab, ok.hd, ok.frames, ok.stk, ok.exf, ok.bs, ok.bsz, ok.noex, ok.exfs, ok.funs, ok.frf⟩
theorem Cx.Ok.unwish {X : Cx} {E : Value → Shared → Prop} (ok : (X.wish E).Ok) : X.Ok :=
 ⟨ok.mod, ok.kind, ok.glob, ok.blt, ok.above, ok.inj, ok.has, ok.cab, ok.hd, ok.frames, ok.stk, ok.exf, ok.bs, ok.bsz, ok.noex, ok.exfs, ok.funs, ok.frf⟩
section
variable {X : Cx} {pins : List (Addr × Obj)} {σ : St} {H : Hp} {s : Shared} {E : Value → Shared → Prop}
theorem Inv.wish (I : Inv X pins σ H s) (E : Value → Shared → Prop) : Inv (X.wish E) pins σ H s := ⟨I.ok.wish E, I.os, I.bare, I.base, I.loc, I.cell, I.free, I.freeC, I.pin, I.hok, I.len⟩
theorem Inv.unwish (I : Inv (X.wish E) pins σ H s) : Inv X pins σ H s := ⟨I.ok.unwish, I.os, I.bare, I.base, I.loc, I.cell, I.free, I.freeC, I.pin, I.hok, I.len⟩
theorem SP.unwish {D : Ends} {f : Flow} {s' : Shared} (h : SP (X.wish E) pins D f s') : SP X pins D f s' := by
 cases f with
 | next => obtain ⟨σ', H', I, q⟩ := h; exact ⟨σ', H', I.unwish, q⟩
 | brk => obtain ⟨σ', H', I, q⟩ := h; exact ⟨σ', H', I.unwish, q⟩
 | cont => obtain ⟨σ', H', I, q⟩ := h; exact ⟨σ', H', I.unwish, q⟩
 | ret u => obtain ⟨v, σ', H', I, r, q⟩ := h; exact ⟨v, σ', H', I.unwish, r, q⟩
theorem PE.nox {e : Expr} {t : TE} (h : PE X.nox e t) : PE X e t := fun pins s σ H Q I hw =>
 wpAny_mono (h pins s σ H Q (I.wish _) hw) (fun _ _ ⟨v, H', I', r, q⟩ => ⟨v, H', I'.unwish, r, q⟩) fun _ _ z => False.elim z
theorem PT.nox {e : Expr} {t : TT} (h : PT X.nox e t) : PT X e t := fun pins s σ H Q I hw =>
 wpAny_mono (h pins s σ H Q (I.wish _) hw) (fun _ _ ⟨H', I', q⟩ => ⟨H', I'.unwish, q⟩) fun _ _ z => False.elim z
theorem PSs.nox {st : List Stmt} {t : TS} (h : PSs X.nox st t) : PSs X st t := fun pins s σ H D I hw =>
 wpAny_mono (h pins s σ H D (I.wish _) hw) (fun _ _ q => q.unwish) fun _ _ z => False.elim z
end
section
variable {X : Cx} {st : Stmt} {rest : List Stmt} {t u : TS} {e : Expr} {te : TE} {pos : Pos}
noncomputable def tNext : TS := fun D σ H => D.nx σ H
noncomputable def tSeq (t u : TS) : TS := fun D σ H => t { D with nx := u D } σ H
theorem pss_nil : PSs X [] tNext := fun _ _ σ H _ I h => wpAny_execs_nil ⟨σ, H, I, h⟩
theorem pss_cons (h1 : PS X st t) (h2 : PSs X rest u) : PSs X (st :: rest) (tSeq t u) := by
 intro pins s σ H D I h
 refine wpAny_execs_cons (thn (h1 pins s σ H { D with nx := u D } I h) fun f s1 q => ?_)
 cases f with
 | next =>
  obtain ⟨σ', H', I', q⟩ := q
  exact h2 pins s1 σ' H' D I' q
 | ret v => exact q
 | brk => exact q
 | cont => exact q
theorem pss_one (h1 : PS X st t) : PSs X [st] t := by
 intro pins s σ H D I h
 refine wpAny_execs_cons (thn (h1 pins s σ H D I h) fun f s1 q => ?_)
 cases f with
 | next => exact wpAny_execs_nil q
 | ret v => exact q
 | brk => exact q
 | cont => exact q
noncomputable def tCont : TS := fun D σ H => D.ct σ H
theorem Inv.quiet {pins : List (Addr × Obj)} {σ : St} {H : Hp} {s : Shared} (I : Inv X pins σ H s) : interactive X.env = false := by simp [interactive, I.ok.kind]
noncomputable def tDrop (te : TE) : TS := fun D σ H => te σ H fun _ H1 => D.nx σ H1
theorem ps_expr (he : PE X e te) (hs : swapsWith e none pos.line X.env = pure false := by rfl) : PS X (.Expr e pos) (tDrop te) := by
 intro pins s σ H D I h
 exact wpAny_Expr_any (thn (he pins s σ H _ I h) fun v s1 ⟨x, H1, I1, r1, q1⟩ => ⟨σ, H1, I1, q1⟩) I.quiet hs
noncomputable def tRet (te : TE) : TS := fun D σ H => te σ H D.rt
theorem ps_ret (he : PE X e te) : PS X (.Return (some e) pos) (tRet te) := by
 intro pins s σ H D I h
 exact wpAny_Return_some (thn (he pins s σ H _ I h) fun v s1 ⟨x, H1, I1, r1, q1⟩ => ⟨x, σ, H1, I1, r1, q1⟩)
noncomputable def tRetN : TS := fun D _ H => D.rt .non H
noncomputable def tIfS (c : TT) (t u : TS) : TS := fun D σ H => c σ H fun b H1 => if b = true then t D σ H1 else u D σ H1
theorem ps_if {c : Expr} {a b : List Stmt} {tc : TT} (hc : PT X c tc) (ha : PSs X a t) (hb : PSs X b u) : PS X (.If c a b pos) (tIfS tc t u) := by
 intro pins s σ H D I h
 refine wpAny_If (thn (hc pins s σ H _ I h) fun d s1 ⟨H1, I1, q1⟩ => ?_)
 cases d with
 | true => exact ha pins s1 σ H1 D I1 q1
 | false => exact hb pins s1 σ H1 D I1 q1
end
noncomputable abbrev TG := V → St → Hp → (St → Hp → Prop) → Prop
noncomputable abbrev TGs := List V → St → Hp → (St → Hp → Prop) → Prop
noncomputable def PG (X : Cx) (target : Expr) (t : TG) : Prop :=
 ∀ (pins : List (Addr × Obj)) (s : Shared) (σ : St) (H : Hp) (v : V) (u : Value) (Q : St → Hp → Prop), Inv X pins σ H s → RelV v u → t v σ H Q →
  wpAny (model X.prog X.w) X.A (assign target X.env u) (fun _ s' => ∃ σ' H', Inv X pins σ' H' s' ∧ Q σ' H') X.xe s
noncomputable def PGs (X : Cx) (ts : List Expr) (t : TGs) : Prop :=
 ∀ (pins : List (Addr × Obj)) (s : Shared) (σ : St) (H : Hp) (vs : List V) (us : List Value) (Q : St → Hp → Prop), Inv X pins σ H s → Vals vs us → t vs σ H Q →
  wpAny (model X.prog X.w) X.A (assignInOrder ((assignEach ts X.env).map (·.2)) us) (fun _ s' => ∃ σ' H', Inv X pins σ' H' s' ∧ Q σ' H') X.xe s
noncomputable abbrev TSet := V → V → V → Hp → (Hp → Prop) → Prop
section
variable {X : Cx} {pos : Pos}
noncomputable def gName (i : Nat) : TG := fun v σ H Q => Q (σ.set i (some v)) H
theorem pg_name {i : Nat} {x : Str} (hN : X.N.Nodup) (hi : X.N[i]? = some x) (hx : Loc X.env.scope x) (hf : X.fn x = true ∨ X.env.scope.names.lookup x = some .local := by first | exact .inl rfl | exact .inr rfl | assumption) : PG X (.Name x pos) (gName i) := by
 intro pins s σ H v u Q I r h
 exact wpAny_assign_Name (store_ok I hN hi hx r (fun s' I' => ⟨_, H, I', h⟩) hf)
noncomputable def gNil : TGs := fun vs σ H Q => vs = [] ∧ Q σ H
noncomputable def gCons (t : TG) (u : TGs) : TGs := fun vs σ H Q => ∃ v r, vs = v :: r ∧ t v σ H fun σ' H' => u r σ' H' Q
theorem pgs_nil : PGs X [] gNil := by
 intro pins s σ H vs us Q I r h
 obtain ⟨e, h⟩ := h
 subst e
 cases r
 exact assignInOrder_nil ⟨σ, H, I, h⟩
theorem pgs_cons {e : Expr} {es : List Expr} {t : TG} {u : TGs} (h1 : PG X e t) (h2 : PGs X es u)
  (hs : (assignEach (e :: es) X.env).map (·.2) = assign e X.env :: (assignEach es X.env).map (·.2) := by rfl) : PGs X (e :: es) (gCons t u) := by
 intro pins s σ H vs us Q I r h
 obtain ⟨v, vr, e1, h⟩ := h
 subst e1
 cases r with
 | cons r rr =>
  rw [hs]
  refine assignInOrder_cons (thn (h1 pins s σ H _ _ _ I r h) fun _ s1 ⟨σ1, H1, I1, q1⟩ => ?_)
  exact h2 pins s1 σ1 H1 _ _ Q I1 rr q1
noncomputable def gTup (K : PySem.W.Frag) (n : Nat) (t : TGs) : TG := fun v σ H Q => ∃ a xs, v = .ref a ∧ SqT K H a xs ∧ xs.length = n ∧ t xs σ H Q
theorem pg_tup {es : List Expr} {k : Nat} {t : TGs} {n : Nat} (hc : X.calm = true) (h : PGs X es t)
  (hn : (assignEach es X.env).length = n := by rfl) (hst : (assignEach es X.env).findIdx? (·.1) = none := by rfl) : PG X (.Tuple es k pos) (gTup X.K n t) := by
 intro pins s σ H v u Q I r hw
 obtain ⟨a, xs, e1, hq, hl, hw⟩ := hw
 subst e1
 cases r
 obtain ⟨its, rv, ht, hz⟩ := I.tuple hq
 refine assign_Tuple_tuple (I.ok.hd hc) ht (by simp [hn, ← hl, rv.length]) hst fun h' hx => ?_
 have I1 : Inv X pins σ H { s with heap := h' } := I.kept (t' := s.toks) fun b o e => hx b o (Nat.ne_of_lt (Heap.lt_size e)) e
 exact h pins _ σ H xs _ Q I1 (by simpa using rv) hw
noncomputable def gSub (to ti : TE) (t : TSet) : TG := fun v σ H Q => to σ H fun o H1 => ti σ H1 fun i H2 => t o i v H2 fun H3 => Q σ H3
noncomputable def tAsg (te : TE) (g : TG) : TS := fun D σ H => te σ H fun x H1 => g x σ H1 D.nx
theorem ps_asg {tg e : Expr} {te : TE} {g : TG} (he : PE X e te) (hg : PG X tg g) (hs : swapsWithSole [tg] e pos.line X.env = pure false := by rfl) (hw : swappedStores [tg] e X.env = pure none := by rfl)
  (h1 : (assignEach [tg] X.env).map (·.2) = [assign tg X.env] := by rfl) : PS X (.Assign [tg] e pos) (tAsg te g) := by
 intro pins s σ H D I h
 refine wpAny_Assign_stores (thn (he pins s σ H _ I h) fun v s1 ⟨x, H1, I1, r1, q1⟩ => ?_) hs hw
 rw [h1]
 exact thn (hg pins s1 σ H1 x v _ I1 r1 q1) fun _ s2 q => q
theorem ps_set {i : Nat} {x : Str} {e : Expr} {te : TE} {pos' : Pos} (hN : X.N.Nodup) (hi : X.N[i]? = some x) (hx : Loc X.env.scope x) (he : PE X e te) (hs : swapsWith e (some (.Name x pos')) pos.line X.env = pure false := by rfl) (hf : X.fn x = true ∨ X.env.scope.names.lookup x = some .local := by first | exact .inl rfl | exact .inr rfl | assumption) :
  PS X (.Assign [.Name x pos'] e pos) (tAsg te (gName i)) := by
 intro pins s σ H D I h
 refine wpAny_Assign_Name (thn (he pins s σ H _ I h) fun v s1 ⟨y, H1, I1, r1, q1⟩ => ?_) hs
 exact store_ok I1 hN hi hx r1 (fun s2 I2 => ⟨_, H1, I2, q1⟩) hf
noncomputable def tPar (i j : Nat) (ta : TA) : TS := fun D σ H => ta σ H fun vs H1 => ∃ v w, vs = [v, w] ∧ D.nx ((σ.set i (some v)).set j (some w)) H1
end
section
variable {X : Cx} {pos : Pos}
noncomputable def tWhile (c : TT) (tb : TS) : TS := fun D σ H => ∃ W : Nat → St → Hp → Prop, (∃ m, W m σ H) ∧ ∀ m σ H, W m σ H →
 c σ H fun b H1 => if b = true then ∃ N : St → Hp → Prop, (∀ σ' H', N σ' H' → ∃ m', m' < m ∧ W m' σ' H') ∧ tb { D with nx := N, ct := N, bk := D.nx } σ H1 else D.nx σ H1
theorem ps_while {c : Expr} {body : List Stmt} {tc : TT} {tb : TS} (hp : PassesOwn (model X.prog X.w) X.A X.env X.xe) (hc : PT X c tc) (hb : PSs X body tb) : PS X (.While c body [] pos) (tWhile tc tb) := by
 intro pins s σ H D I h
 obtain ⟨W, ⟨m0, w0⟩, turn⟩ := h
 refine wpAny_While (codeAny_whileLoop (fun n s' => ∃ σ' H', Inv X pins σ' H' s' ∧ W n σ' H') ?_ m0 ⟨σ, H, I, w0⟩)
 rintro n s1 ⟨σ1, H1, I1, w1⟩
 refine wpAny_passesOwn hp (thn (hc pins s1 σ1 H1 _ I1 (turn n σ1 H1 w1)) fun b s2 ⟨H2, I2, q2⟩ => ?_)
 cases b with
 | true =>
  obtain ⟨N, hN, q2⟩ := q2
  rw [if_pos rfl]
  refine wpAny_passesOwn hp (thn (hb pins s2 σ1 H2 _ I2 q2) fun f s3 q3 => ?_)
  cases f with
  | next =>
   obtain ⟨σ3, H3, I3, n3⟩ := q3
   obtain ⟨m', hm, w3⟩ := hN σ3 H3 n3
   exact ⟨m', hm, σ3, H3, I3, w3⟩
  | cont =>
   obtain ⟨σ3, H3, I3, n3⟩ := q3
   obtain ⟨m', hm, w3⟩ := hN σ3 H3 n3
   exact ⟨m', hm, σ3, H3, I3, w3⟩
  | brk => exact q3
  | ret v => exact q3
 | false =>
  rw [if_neg Bool.false_ne_true]
  exact wpAny_execs_nil ⟨σ1, H2, I2, q2⟩
end
structure It where
 go : Nat → Hp → Prop
 yld : Nat → Hp → V → Hp → Prop
 stop : Nat → Hp → Prop
noncomputable def FpOk (X : Cx) (pins : List (Addr × Obj)) (H : Hp) (b : Addr) : Prop :=
 H b = none ∧ b ≠ X.env.locals ∧ b ∉ X.fs ∧ (b ∈ X.ex ∨ X.s₀.heap.objs.size ≤ b) ∧ (∀ x c, X.env.cells.lookup x = some c → c ≠ b) ∧ ∀ p ∈ X.pn ++ pins, p.1 ≠ b
theorem Inv.fpOk {X : Cx} {pins : List (Addr × Obj)} {σ : St} {H H' : Hp} {s : Shared} {b : Addr} (I : Inv X pins σ H s) (hb : s.heap.objs.size ≤ b) (hn : H' b = none) : FpOk X pins H' b := by
 refine ⟨hn, Nat.ne_of_gt (Nat.lt_of_lt_of_le I.lt hb), I.nofs hb, .inr (Nat.le_trans I.sz hb), fun x c e z => ?_, fun p hp z => ?_⟩
 ·obtain ⟨v, q⟩ := I.cell x c e
  exact absurd (Nat.lt_of_lt_of_le q.lt (by rw [z]; exact hb)) (Nat.lt_irrefl _)
 ·exact absurd (Nat.lt_of_lt_of_le (Heap.lt_size (I.pin p hp).1) (by rw [z]; exact hb)) (Nat.lt_irrefl _)
structure Turn (P : Program) (w : World) (K : PySem.W.Frag) (tg : Expr) (J : It) (fp : List Addr) (it : Addr) (tn : Nat → Heap → Prop) : Prop where
 mem : it ∈ fp
 obj : ∀ i h, tn i h → ∀ b ∈ fp, ∃ o, h.get? b = some o ∧ ∀ v, o.data ≠ .cell v
 keep : ∀ i h h', tn i h → (∀ b ∈ fp, ∀ o, h.get? b = some o → h'.get? b = some o) → tn i h'
 item : ∀ (X : Cx), X.prog = P → X.w = w → X.K = K → X.calm = true → ∀ (i : Nat) (pins : List (Addr × Obj)) (s : Shared) (σ : St) (H : Hp) (E : Value → Shared → Prop), Inv X pins σ H s → (∀ b ∈ fp, FpOk X pins H b) → tn i s.heap → J.go i H →
  wpAny (model P w) X.A (pyNext (.ref it)) (fun r s1 => ∃ u, r = some u ∧
   wpAny (model P w) X.A (letOwnedTupleGo tg (.ref it) u) (fun _ s2 => ∃ x H', Inv X pins σ H' s2 ∧ RelV x u ∧ J.yld i H x H' ∧ tn (i + 1) s2.heap ∧ ∀ b ∈ fp, H' b = none) E s1) E s
 done : ∀ (X : Cx), X.prog = P → X.w = w → X.K = K → X.calm = true → ∀ (i : Nat) (pins : List (Addr × Obj)) (s : Shared) (σ : St) (H : Hp) (E : Value → Shared → Prop), Inv X pins σ H s → (∀ b ∈ fp, FpOk X pins H b) → tn i s.heap → J.stop i H →
  wpAny (model P w) X.A (pyNext (.ref it)) (fun r s1 => r = none ∧ Inv X pins σ H s1) E s
 self : ∀ (A : Around) (i : Nat) (s : Shared) (Q : Value → Shared → Prop) (E : Value → Shared → Prop), tn i s.heap → Q (.ref it) s → wpAny (model P w) A (pyIter (.ref it)) Q E s
noncomputable abbrev TI := St → Hp → (It → Hp → Prop) → Prop
noncomputable def PIE (X : Cx) (pins : List (Addr × Obj)) (σ : St) (tg : Expr) (R : It → Hp → Prop) (itv : Value) (s2 : Shared) : Prop :=
 ∃ (it : Addr) (fp : List Addr) (tn : Nat → Heap → Prop) (J : It) (H' : Hp), itv = .ref it ∧ Inv X pins σ H' s2 ∧ Turn X.prog X.w X.K tg J fp it tn ∧ tn 0 s2.heap ∧ (∀ b ∈ fp, FpOk X pins H' b) ∧ R J H'
noncomputable def PI (X : Cx) (tg iter : Expr) (wi : TI) : Prop :=
 ∀ (pins : List (Addr × Obj)) (s : Shared) (σ : St) (H : Hp) (R : It → Hp → Prop), Inv X pins σ H s → wi σ H R →
  wpAny (model X.prog X.w) X.A (eval iter X.env) (fun v s1 => wpAny (model X.prog X.w) X.A (pyIter v) (PIE X pins σ tg R) X.xe s1) X.xe s
theorem go_of {M : Model} {A : Around} {E : Value → Shared → Prop} {s : Shared} {tg : Expr} {it : Addr} {u : Value} {o : Obj} {n : String} {vs : Array Value} {Q : Unit → Shared → Prop} (ho : s.heap.get? it = some o) (hc : o.cls = .type n) (hd : o.data = .fields vs)
  (hn : ["enumerate", "zip", "dict_itemiterator", "dict_reverseitemiterator", "odict_iterator", "itertools.zip_longest", "itertools.pairwise"].contains n = false) (hQ : Q () s) : wpAny M A (letOwnedTupleGo tg (.ref it) u) Q E s := by
 unfold letOwnedTupleGo
 cases tg <;> first
  | exact wpAny_pure hQ
  | (cases u <;> first
    | exact wpAny_pure hQ
    | (refine wpAny_bind (wpAny_load ho ?_); rw [hc, hd]; show wpAny M A (if (["enumerate", "zip", "dict_itemiterator", "dict_reverseitemiterator", "odict_iterator", "itertools.zip_longest", "itertools.pairwise"].contains n && vs[0]? == some (rawInt _)) = true then _ else _) Q E s; rw [if_neg (by intro h; rw [hn, Bool.false_and] at h; cases h)]; exact wpAny_pure hQ))
noncomputable def Itl (K : PySem.W.Frag) (a : Addr) : It :=
 ⟨fun i H => ∃ xs x, SqL K H a xs ∧ xs[i]? = some x, fun i H x H' => H' = H ∧ ∀ xs, SqL K H a xs → xs[i]? = some x, fun i H => ∃ xs, SqL K H a xs ∧ xs.length ≤ i⟩
noncomputable def Itr (lo : Int) (n : Nat) : It := ⟨fun i _ => i < n, fun i H x H' => H' = H ∧ x = .int (lo + i), fun i _ => n ≤ i⟩
theorem turn_list {P : Program} {w : World} {K : PySem.W.Frag} {tg : Expr} (a it : Addr) : Turn P w K tg (Itl K a) [it] it (fun i h => h.IsListIter it a i) where
 mem := by simp
 obj := fun i h st b hb => by
  have e : b = it := by simpa using hb
  subst e
  obtain ⟨o, e, c, d⟩ := st
  exact ⟨o, e, fun v z => by rw [d] at z; cases z⟩
 keep := fun i h h' st k => st.at fun o e => k it (by simp) o e
 item := by
  intro X hP hw hK hc i pins s σ H E I hf st hg
  subst hP hw hK
  obtain ⟨xs, x, hq, hx⟩ := hg
  obtain ⟨its, rv, p, hz⟩ := I.list hq
  obtain ⟨u, hu, ru⟩ := rv.get hx
  obtain ⟨f0, f1, f2, f3, f4, f5⟩ := hf it (by simp)
  refine wpAny_pyNext_list_item st p.isList (x := u) (by simpa using hu) fun h' st' sb => ?_
  have I1 : Inv X pins σ H { s with heap := h' } := I.turned (t' := s.toks) (fun b o hb e => (sb.2 b hb).trans e) f0 f1 f3 f4 f5
  obtain ⟨o, e, c, d⟩ := id st'
  exact ⟨u, rfl, go_of (s := { s with heap := h' }) e c d (by decide) ⟨x, H, I1, ru, ⟨rfl, fun ys hy => by rw [I.list_inj hy hq]; exact hx⟩, st', fun b hb => (hf b hb).1⟩⟩
 done := by
  intro X hP hw hK hc i pins s σ H E I hf st hg
  subst hP hw hK
  obtain ⟨xs, hq, hx⟩ := hg
  obtain ⟨its, rv, p, hz⟩ := I.list hq
  obtain ⟨f0, f1, f2, f3, f4, f5⟩ := hf it (by simp)
  have hl := rv.length
  exact wpAny_pyNext_list_end (I.ok.hd hc) st p.isList (by simp; omega) fun h' eb => ⟨rfl, I.turned (t' := s.toks) (fun b o hb e => eb b o hb e) f0 f1 f3 f4 f5⟩
 self := fun _ _ _ _ _ st h => wpAny_pyIter_listiter st h
theorem turn_range {P : Program} {w : World} {K : PySem.W.Frag} {tg : Expr} (it : Addr) (lo : Int) (n : Nat) : Turn P w K tg (Itr lo n) [it] it (fun i h => IsRangeIter h it (lo + (i : Nat) * 1) ((n : Int) - (i : Nat)) 1) where
 mem := by simp
 obj := fun i h st b hb => by
  have e : b = it := by simpa using hb
  subst e
  exact ⟨_, st, fun v z => by
   have z' : Data.fields _ = Data.cell v := z
   cases z'⟩
 keep := fun i h h' st k => k it (by simp) _ st
 item := by
  intro X hP hw hK hc i pins s σ H E I hf st hg
  subst hP hw hK
  obtain ⟨f0, f1, f2, f3, f4, f5⟩ := hf it (by simp)
  have W := Walks.range (prog := X.prog) (w := X.w) (I.ok.hd hc) it lo 1 n
  refine W.item i s _ _ hg st fun v h' tk hv st' kk => ?_
  obtain ⟨t, rfl⟩ := hv
  have I1 : Inv X pins σ H { s with heap := h', toks := tk } := I.turned (fun b o hb e => kk b o (by simpa using hb) e) f0 f1 f3 f4 f5
  refine ⟨_, rfl, go_of (s := { s with heap := h', toks := tk }) (n := "range_iterator") st' rfl rfl (by decide) ⟨.int (lo + i), H, I1, ⟨t, ?_⟩, ⟨rfl, rfl⟩, st', fun b hb => (hf b hb).1⟩⟩
  rw [Int.mul_one]
 done := by
  intro X hP hw hK hc i pins s σ H E I hf st hg
  subst hP hw hK
  obtain ⟨f0, f1, f2, f3, f4, f5⟩ := hf it (by simp)
  exact wpAny_pyNext_range_end (I.ok.hd hc) st (by have : n ≤ i := hg; omega) fun h' eb => ⟨rfl, I.turned (t' := s.toks) (fun b o hb e => eb b o hb e) f0 f1 f3 f4 f5⟩
 self := fun _ _ _ _ _ st h => wpAny_pyIter_rangeiter st h
end L2
namespace L2
open PySem PySem.Spec PyProof.Rows
section
variable {X : Cx} {tg : Expr}
noncomputable def iList (K : PySem.W.Frag) (tl : TE) : TI := fun σ H R => tl σ H fun x H1 => ∃ a, x = .ref a ∧ (∃ xs, SqL K H1 a xs) ∧ R (Itl K a) H1
theorem pi_list {l : Expr} {tl : TE} (hl : PE X l tl) : PI X tg l (iList X.K tl) := by
 intro pins s σ H R I h
 refine thn (hl pins s σ H _ I h) fun v s1 ⟨x, H1, I1, r1, q1⟩ => ?_
 obtain ⟨a, e, ⟨xs, hq⟩, q⟩ := q1
 subst e
 cases r1
 obtain ⟨its, rv, p, hz⟩ := I1.list hq
 refine wpAny_pyIter_list p.isList ?_
 refine ⟨s1.heap.objs.size, [s1.heap.objs.size], _, _, H1, rfl, I1.kept (t' := s1.toks) fun b o e => Heap.get?_push_of_some _ e, turn_list a _, ⟨_, Heap.get?_push_size _ rfl, rfl, rfl⟩, fun b hb => ?_, q⟩
 have e : b = s1.heap.objs.size := by simpa using hb
 subst e
 exact I1.fpOk (Nat.le_refl _) (I1.hok.fresh (Nat.le_refl _))
theorem range_it {pins : List (Addr × Obj)} {σ : St} {H : Hp} {s : Shared} {R : It → Hp → Prop} {E : Value → Shared → Prop} {lo hi : Int} {t u v : Tok} {tk : Nat} (I : Inv X pins σ H s) (h1 : -(2 ^ 62) ≤ lo) (h2 : lo < 2 ^ 62) (h3 : -(2 ^ 62) ≤ hi) (h4 : hi < 2 ^ 62)
  (q : R (Itr lo (hi - lo).toNat) H) : wpAny (model X.prog X.w) X.A (pyIter (.ref s.heap.objs.size)) (PIE X pins σ tg R) E { s with heap := s.heap.push { cls := .type "range", data := .fields #[.int lo t, .int hi u, .int 1 v] }, toks := tk } := by
 refine wpAny_pyIter_range (IsRange.new ..) (small_one h1 h2 h3 h4) ?_
 have I1 : Inv X pins σ H { s with heap := s.heap.push { cls := .type "range", data := .fields #[.int lo t, .int hi u, .int 1 v] }, toks := tk } := I.kept fun b o e => Heap.get?_push_of_some _ e
 refine ⟨(s.heap.push { cls := .type "range", data := .fields #[.int lo t, .int hi u, .int 1 v] }).objs.size, [(s.heap.push { cls := .type "range", data := .fields #[.int lo t, .int hi u, .int 1 v] }).objs.size], _, _, H, rfl,
  I1.kept (t' := tk) fun b o e => Heap.get?_push_of_some _ e, turn_range _ lo (hi - lo).toNat, ?_, fun b hb => ?_, q⟩
 ·have e1 : lo + ((0 : Nat) : Int) * 1 = lo := by simp
  have e2 : (((hi - lo).toNat : Nat) : Int) - ((0 : Nat) : Int) = Builtin.Range.rangeSize lo hi 1 := by rw [rangeSize_one]; split <;> omega
  show IsRangeIter _ _ (lo + ((0 : Nat) : Int) * 1) ((((hi - lo).toNat : Nat) : Int) - ((0 : Nat) : Int)) 1
  rw [e1, e2]
  exact Heap.get?_push_size _ rfl
 ·have e : b = (s.heap.push { cls := .type "range", data := .fields #[.int lo t, .int hi u, .int 1 v] }).objs.size := by simpa using hb
  subst e
  exact I1.fpOk (Nat.le_refl _) (I1.hok.fresh (Nat.le_refl _))
noncomputable def iRng1 (ta : TA) : TI := fun σ H R => ta σ H fun vs H1 => ∃ j : Int, vs = [.int j] ∧ -(2 ^ 62) ≤ j ∧ j < 2 ^ 62 ∧ R (Itr 0 j.toNat) H1
theorem pi_range1 {a : Expr} {ta : TA} {p pos : Pos} (hg : Gl X "range") (hm : X.mg "range" = none) (ha : PA X [a] ta) (hs : starEach [a] X.env = [(false, eval a X.env)] := by rfl) : PI X tg (.Call (.Name "range" p) [a] [] pos) (iRng1 ta) := by
 intro pins s σ H R I h
 refine Call_ (ld_blt I hg hm boot_range (PyProof.Rows.callWith_type1 (thn (ha pos pins s σ H _ I h) fun us s1 ⟨vs, H1, I1, r1, q1⟩ => ?_) hs rfl))
 obtain ⟨j, e, q1, q2, q⟩ := q1
 subst e
 cases r1 with
 | cons r rr =>
  cases rr
  obtain ⟨t, rfl⟩ := r
  exact call_range_1 (range_it I1 (by omega) (by omega) q1 q2 (by simpa using q))
noncomputable def tFor (wi : TI) (g : TG) (tb : TS) : TS := fun D σ H => wi σ H fun J H1 => ∃ W : Nat → Nat → St → Hp → Prop, (∃ m, W 0 m σ H1) ∧ ∀ i m σ H, W i m σ H →
 (J.stop i H ∧ D.nx σ H) ∨ (J.go i H ∧ ∃ N : St → Hp → Prop, (∀ σ' H', N σ' H' → ∃ m', m' < m ∧ W (i + 1) m' σ' H') ∧ ∀ x H', J.yld i H x H' → g x σ H' fun σ2 H2 => tb { D with nx := N, ct := N, bk := D.nx } σ2 H2)
noncomputable def pinsAt (fp : List Addr) (h : Heap) : List (Addr × Obj) := fp.filterMap fun b => (h.get? b).map fun o => (b, o)
theorem mem_pinsAt {fp : List Addr} {h : Heap} {b : Addr} {o : Obj} (hb : b ∈ fp) (e : h.get? b = some o) : (b, o) ∈ pinsAt fp h := List.mem_filterMap.mpr ⟨b, hb, by rw [e]; rfl⟩
theorem of_pinsAt {fp : List Addr} {h : Heap} {p : Addr × Obj} (hp : p ∈ pinsAt fp h) : p.1 ∈ fp ∧ h.get? p.1 = some p.2 := by
 obtain ⟨b, hb, e⟩ := List.mem_filterMap.mp hp
 cases q : h.get? b with
 | none => rw [q] at e; cases e
 | some o =>
  rw [q] at e
  have e' : (b, o) = p := Option.some.inj e
  subst e'
  exact ⟨hb, q⟩
theorem Inv.pinned {pins : List (Addr × Obj)} {σ : St} {H : Hp} {s : Shared} {fp : List Addr} (I : Inv X pins σ H s) (hf : ∀ b ∈ fp, FpOk X pins H b) (ho : ∀ b ∈ fp, ∃ o, s.heap.get? b = some o ∧ ∀ v, o.data ≠ .cell v) : Inv X (pins ++ pinsAt fp s.heap) σ H s :=
 I.pins_of fun p hp => (List.mem_append.mp hp).elim (fun z => I.pin p (List.mem_append_right _ z)) fun z => by
  obtain ⟨hb, e⟩ := of_pinsAt z
  obtain ⟨f0, f1, f2, _⟩ := hf p.1 hb
  obtain ⟨o, e', d⟩ := ho p.1 hb
  rw [e] at e'; cases e'
  exact ⟨e, f0, f1, f2, d⟩
theorem Inv.unpinned {pins pl : List (Addr × Obj)} {σ : St} {H : Hp} {s : Shared} (I : Inv X (pins ++ pl) σ H s) : Inv X pins σ H s := I.pins_of fun p hp => I.pin p (List.mem_append_right _ (List.mem_append_left _ hp))
theorem ps_for {iter : Expr} {body : List Stmt} {wi : TI} {g : TG} {tb : TS} {pos : Pos} (hp : PassesOwn (model X.prog X.w) X.A X.env X.xe) (hc : X.calm = true) (hi : PI X tg iter wi) (hg : PG X tg g) (hb : PSs X body tb)
  (hs : ∀ x, foldedSetIterable iter X.env x = pure x := by intro _; rfl) : PS X (.For tg iter body [] pos) (tFor wi g tb) := by
 intro pins s σ H D I h
 refine wpAny_For (thn (hi pins s σ H _ I h) fun v s1 h1 => thn h1 fun itv s2 h2 => ?_) hs
 obtain ⟨it, fp, tn, J, H2, e, I2, T, st2, f2, W, ⟨m0, w0⟩, turn⟩ := h2
 subst e
 -- what stays true of the iterator's objects through the loop
 have stat : ∀ {H' : Hp}, (∀ b ∈ fp, H' b = none) → ∀ b ∈ fp, FpOk X pins H' b := fun hn b hb => ⟨hn b hb, (f2 b hb).2⟩
 refine codeAny_forLoop_any (fun n s' => ∃ i σ' H', Inv X pins σ' H' s' ∧ tn i s'.heap ∧ (∀ b ∈ fp, H' b = none) ∧ W i n σ' H') ?_ m0 ⟨0, σ, H2, I2, st2, fun b hb => (f2 b hb).1, w0⟩
 rintro n s3 ⟨i, σ3, H3, I3, st3, fr3, w3⟩
 rcases turn i n σ3 H3 w3 with ⟨stop, qn⟩ | ⟨go, N, hN, step⟩
 ·refine wpAny_passesOwn hp (thn (T.done X rfl rfl rfl hc i pins s3 σ3 H3 X.xe I3 (stat fr3) st3 stop) fun r s4 ⟨hr, I4⟩ => ?_)
  subst hr
  exact wpAny_execs_nil ⟨σ3, H3, I4, qn⟩
 ·refine wpAny_passesOwn hp (thn (T.item X rfl rfl rfl hc i pins s3 σ3 H3 X.xe I3 (stat fr3) st3 go) fun r s4 ⟨u, hr, h4⟩ => ?_)
  subst hr
  refine wpAny_passesOwn hp (thn h4 fun _ s5 ⟨x, H5, I5, r5, y5, st5, fr5⟩ => ?_)
  have I5' := I5.pinned (stat fr5) (T.obj _ _ st5)
  refine wpAny_passesOwn hp (thn (hg _ s5 σ3 H5 x u _ I5' r5 (step x H5 y5)) fun _ s6 ⟨σ6, H6, I6, q6⟩ => ?_)
  refine wpAny_passesOwn hp (thn (hb _ s6 σ6 H6 _ I6 q6) fun f s7 q7 => ?_)
  have again : ∀ {σ7 : St} {H7 : Hp}, Inv X (pins ++ pinsAt fp s5.heap) σ7 H7 s7 → N σ7 H7 → ∃ m, m < n ∧ ∃ i σ' H', Inv X pins σ' H' s7 ∧ tn i s7.heap ∧ (∀ b ∈ fp, H' b = none) ∧ W i m σ' H' := fun {σ7 H7} I7 n7 => by
   obtain ⟨m', hm, w7⟩ := hN σ7 H7 n7
   refine ⟨m', hm, i + 1, σ7, H7, I7.unpinned, T.keep _ _ _ st5 fun b hb o e => (I7.pin (b, o) (List.mem_append_right _ (List.mem_append_right _ (mem_pinsAt hb e)))).1, fun b hb => ?_, w7⟩
   obtain ⟨o, e, d⟩ := T.obj _ _ st5 b hb
   exact (I7.pin (b, o) (List.mem_append_right _ (List.mem_append_right _ (mem_pinsAt hb e)))).2.1
  cases f with
  | next => obtain ⟨σ7, H7, I7, n7⟩ := q7; exact again I7 n7
  | cont => obtain ⟨σ7, H7, I7, n7⟩ := q7; exact again I7 n7
  | brk => obtain ⟨σ7, H7, I7, q7⟩ := q7; exact ⟨σ7, H7, I7.unpinned, q7⟩
  | ret v => obtain ⟨x7, σ7, H7, I7, r7, q7⟩ := q7; exact ⟨x7, σ7, H7, I7.unpinned, r7, q7⟩
end
theorem for_range {lo : Int} {n : Nat} {g : TG} {tb : TS} {D : Ends} {σ : St} {H : Hp} (Pv : Nat → St → Hp → Prop) (h0 : Pv 0 σ H)
  (hs : ∀ i σ H, i < n → Pv i σ H → g (.int (lo + i)) σ H fun σ2 H2 => tb { D with nx := Pv (i + 1), ct := Pv (i + 1), bk := D.nx } σ2 H2) (hd : ∀ σ H, Pv n σ H → D.nx σ H) :
  ∃ W : Nat → Nat → St → Hp → Prop, (∃ m, W 0 m σ H) ∧ ∀ i m σ H, W i m σ H →
   ((Itr lo n).stop i H ∧ D.nx σ H) ∨ ((Itr lo n).go i H ∧ ∃ N : St → Hp → Prop, (∀ σ' H', N σ' H' → ∃ m', m' < m ∧ W (i + 1) m' σ' H') ∧ ∀ x H', (Itr lo n).yld i H x H' → g x σ H' fun σ2 H2 => tb { D with nx := N, ct := N, bk := D.nx } σ2 H2) := by
 refine ⟨fun i m σ H => m = n - i ∧ i ≤ n ∧ Pv i σ H, ⟨n, by simp, Nat.zero_le _, h0⟩, ?_⟩
 rintro i m σ H ⟨rfl, hi, p⟩
 by_cases hlt : i < n
 ·refine .inr ⟨hlt, Pv (i + 1), fun σ' H' p' => ⟨n - (i + 1), by omega, rfl, hlt, p'⟩, fun x H' y => ?_⟩
  obtain ⟨e, y⟩ := y
  subst e y
  exact hs i σ _ hlt p
 ·have e : i = n := by omega
  subst e
  exact .inl ⟨Nat.le_refl _, hd σ H p⟩
end L2
namespace L2
open PySem PySem.Spec PyProof.Rows
noncomputable abbrev R2 := V → V → Hp → VK → Prop
noncomputable def OpR (X : Cx) (f : Value → Value → Sem Value) (r : R2) : Prop :=
 ∀ (pins : List (Addr × Obj)) (s : Shared) (σ : St) (H : Hp) (x y : V) (v u : Value) (Q : VK), Inv X pins σ H s → RelV x v → RelV y u → r x y H Q →
  wpAny (model X.prog X.w) X.A (f v u) (EP X pins σ Q) X.xe s
noncomputable def UnR (X : Cx) (f : Value → Sem Value) (r : V → Hp → VK → Prop) : Prop :=
 ∀ (pins : List (Addr × Obj)) (s : Shared) (σ : St) (H : Hp) (x : V) (v : Value) (Q : VK), Inv X pins σ H s → RelV x v → r x H Q →
  wpAny (model X.prog X.w) X.A (f v) (EP X pins σ Q) X.xe s
noncomputable def CallR (X : Cx) (f : Value) (r : List V → Hp → VK → Prop) : Prop :=
 ∀ (pins : List (Addr × Obj)) (s : Shared) (σ : St) (H : Hp) (xs : List V) (us : List Value) (Q : VK), Inv X pins σ H s → Vals xs us → r xs H Q →
  wpAny (model X.prog X.w) X.A (call f us) (EP X pins σ Q) X.xe s
noncomputable def tOp (r : R2) (ta tb : TE) : TE := fun σ H Q => ta σ H fun x H1 => tb σ H1 fun y H2 => r x y H2 Q
noncomputable def tUn (r : V → Hp → VK → Prop) (ta : TE) : TE := fun σ H Q => ta σ H fun x H1 => r x H1 Q
noncomputable def rI (C : Int → Int → Prop) (g : Int → Int → V) : R2 := fun x y H Q => ∃ i j, x = .int i ∧ y = .int j ∧ C i j ∧ Q (g i j) H
noncomputable def rI0 (g : Int → Int → V) : R2 := fun x y H Q => ∃ i j, x = .int i ∧ y = .int j ∧ Q (g i j) H
noncomputable def rU (g : Int → V) : V → Hp → VK → Prop := fun x H Q => ∃ i, x = .int i ∧ Q (g i) H
section
variable {X : Cx} {a b c : Expr} {ta tb tc : TE} {pos : Pos}
theorem binT (ha : PE X a ta) (hb : PE X b tb) {pins : List (Addr × Obj)} {s : Shared} {σ : St} {H : Hp} {R : V → V → Hp → Prop} (I : Inv X pins σ H s)
  (h : ta σ H fun x H1 => tb σ H1 fun y H2 => R x y H2) {Q : Value → Shared → Prop} {f : Value → Value → Sem Value}
  (hf : ∀ v u s2 x y H2, Inv X pins σ H2 s2 → RelV x v → RelV y u → R x y H2 → wpAny (model X.prog X.w) X.A (f v u) Q X.xe s2) :
  wpAny (model X.prog X.w) X.A (eval a X.env) (fun v s₁ => wpAny (model X.prog X.w) X.A (eval b X.env) (fun u s₂ => wpAny (model X.prog X.w) X.A (f v u) Q X.xe s₂) X.xe s₁) X.xe s := by
 refine thn (ha pins s σ H _ I h) fun v s1 ⟨x, H1, I1, r1, q1⟩ => ?_
 refine thn (hb pins s1 σ H1 _ I1 q1) fun u s2 ⟨y, H2, I2, r2, q2⟩ => ?_
 exact hf v u s2 x y H2 I2 r1 r2 q2
theorem pe_op {op : Operator} {r : R2} (ho : OpR X (binaryOp op) r) (ha : PE X a ta) (hb : PE X b tb) : PE X (.BinOp a op b pos) (tOp r ta tb) := by
 intro pins s σ H Q I h
 exact wpAny_BinOp (binT ha hb I h fun v u s2 x y H2 I2 rx ry q => ho pins s2 σ H2 x y v u Q I2 rx ry q)
theorem opI {f : Value → Value → Sem Value} {C : Int → Int → Prop} {g : Int → Int → Int}
  (rule : ∀ (i j : Int) (t u : Tok) (s : Shared) (Q : Value → Shared → Prop) (E : Value → Shared → Prop), C i j → Q (.int (g i j) s.toks) { s with toks := s.toks + 1 } → wpAny (model X.prog X.w) X.A (f (.int i t) (.int j u)) Q E s) :
  OpR X f (rI C fun i j => .int (g i j)) := by
 intro pins s σ H x y v u Q I rx ry h
 obtain ⟨i, j, rfl, rfl, hc, q⟩ := h
 obtain ⟨t, rfl⟩ := rx
 obtain ⟨t', rfl⟩ := ry
 exact rule i j t t' s _ _ hc ⟨.int (g i j), H, I.tok _, ⟨_, rfl⟩, q⟩
theorem opI0 {f : Value → Value → Sem Value} {g : Int → Int → Int}
  (rule : ∀ (i j : Int) (t u : Tok) (s : Shared) (Q : Value → Shared → Prop) (E : Value → Shared → Prop), Q (.int (g i j) s.toks) { s with toks := s.toks + 1 } → wpAny (model X.prog X.w) X.A (f (.int i t) (.int j u)) Q E s) :
  OpR X f (rI0 fun i j => .int (g i j)) := by
 intro pins s σ H x y v u Q I rx ry h
 obtain ⟨i, j, rfl, rfl, q⟩ := h
 obtain ⟨t, rfl⟩ := rx
 obtain ⟨t', rfl⟩ := ry
 exact rule i j t t' s _ _ ⟨.int (g i j), H, I.tok _, ⟨_, rfl⟩, q⟩
theorem opB0 {f : Value → Value → Sem Value} {g : Int → Int → Bool}
  (rule : ∀ (i j : Int) (t u : Tok) (s : Shared) (Q : Value → Shared → Prop) (E : Value → Shared → Prop), Q (.bool (g i j)) s → wpAny (model X.prog X.w) X.A (f (.int i t) (.int j u)) Q E s) :
  OpR X f (rI0 fun i j => .bl (g i j)) := by
 intro pins s σ H x y v u Q I rx ry h
 obtain ⟨i, j, rfl, rfl, q⟩ := h
 obtain ⟨t, rfl⟩ := rx
 obtain ⟨t', rfl⟩ := ry
 exact rule i j t t' s _ _ ⟨.bl (g i j), H, I, rfl, q⟩
noncomputable def CMul (i j : Int) : Prop := (-(2 ^ 64) < i ∧ i < 2 ^ 64) ∨ (-(2 ^ 64) < j ∧ j < 2 ^ 64)
theorem CMul.ok {i j : Int} (h : CMul i j) : IntMulOk i j := by
 rcases h with ⟨h1, h2⟩ | ⟨h1, h2⟩
 ·exact .of_left (intBits_le_64 h1 h2)
 ·exact .of_right (intBits_le_64 h1 h2)
theorem op_add : OpR X (binaryOp .Add) (rI0 fun i j => .int (i + j)) := opI0 fun _ _ _ _ _ _ _ q => add_int q
theorem op_sub : OpR X (binaryOp .Sub) (rI0 fun i j => .int (i - j)) := opI0 fun _ _ _ _ _ _ _ q => sub_int q
theorem op_mod : OpR X (binaryOp .Mod) (rI (fun _ j => 0 < j) fun i j => .int (i % j)) := opI fun i j _ _ _ _ _ hc q => by
 have h1 : (0 : Int) < j := hc
 exact mod_int' (by omega) (by rw [Int.fmod_eq_emod_of_nonneg i (by omega)]; exact q)
end
noncomputable def scal : V → V → Bool
 | .non, .non => true | .non, .int _ => true | .int _, .non => true | .non, .bl _ => true | .bl _, .non => true | .non, .str _ => true | .str _, .non => true
 | .int _, .int _ => true | .bl _, .bl _ => true | .str _, .str _ => true | .byt _, .byt _ => true
 | .int _, .str _ => true | .str _, .int _ => true | .bl _, .str _ => true | .str _, .bl _ => true
 | _, _ => false
noncomputable def rEq : R2 := fun x y H Q => scal x y = true ∧ Q (.bl (decide (x = y))) H
noncomputable def rNe : R2 := fun x y H Q => scal x y = true ∧ Q (.bl (!decide (x = y))) H
theorem dec_int {i j : Int} : decide (V.int i = V.int j) = (i == j) := by
 rw [Bool.eq_iff_iff]
 simp
theorem dec_bl {i j : Bool} : decide (V.bl i = V.bl j) = (i == j) := by
 rw [Bool.eq_iff_iff]
 simp
theorem dec_str {i j : Str} : decide (V.str i = V.str j) = (i == j) := by
 rw [Bool.eq_iff_iff]
 simp
theorem dec_byt {i j : Array UInt8} : decide (V.byt i = V.byt j) = (i.toList == j.toList) := by
 rw [Bool.eq_iff_iff]
 cases i
 cases j
 simp
section
variable {X : Cx} {a b c : Expr} {ta tb tc : TE} {pos : Pos}
theorem fin_bl {pins : List (Addr × Obj)} {σ : St} {H : Hp} {s : Shared} {Q : VK} {k k' : Bool} (I : Inv X pins σ H s) (q : Q (.bl k) H) (e : k = k') : EP X pins σ Q (.bool k') s := by
 subst e
 exact ⟨.bl k, H, I, rfl, q⟩
theorem op_ne : OpR X (compareOp .NotEq) rNe := by
 intro pins s σ H x y v u Q I rx ry h
 obtain ⟨hs, q⟩ := h
 cases x with
 | non =>
  cases rx
  cases y with
  | non => cases ry; exact PySem.EqNone.ne_none_none (fin_bl I q (by simp))
  | bl j => cases ry; exact PySem.EqNone.ne_none_bool (fin_bl I q (by simp))
  | int j => obtain ⟨t', rfl⟩ := ry; exact PySem.EqNone.ne_none_int (fin_bl I q (by simp))
  | str j => obtain ⟨t', rfl⟩ := ry; exact PySem.EqNone.ne_none_str (fin_bl I q (by simp))
  | _ => exact absurd (show false = true from hs) Bool.false_ne_true
 | bl i =>
  cases rx
  cases y with
  | non => cases ry; exact PySem.EqNone.ne_bool_none (fin_bl I q (by simp))
  | bl j => cases ry; exact ne_bool (fin_bl I q (congrArg not dec_bl))
  | str j => obtain ⟨t', rfl⟩ := ry; exact PySem.EqMixed.ne_bool_str (fin_bl I q (by simp))
  | _ => exact absurd (show false = true from hs) Bool.false_ne_true
 | int i =>
  obtain ⟨t, rfl⟩ := rx
  cases y with
  | non => cases ry; exact PySem.EqNone.ne_int_none (fin_bl I q (by simp))
  | int j => obtain ⟨t', rfl⟩ := ry; exact ne_int (fin_bl I q (congrArg not dec_int))
  | str j => obtain ⟨t', rfl⟩ := ry; exact PySem.EqMixed.ne_int_str (fin_bl I q (by simp))
  | _ => exact absurd (show false = true from hs) Bool.false_ne_true
 | str i =>
  obtain ⟨t, rfl⟩ := rx
  cases y with
  | non => cases ry; exact PySem.EqNone.ne_str_none (fin_bl I q (by simp))
  | bl j => cases ry; exact PySem.EqMixed.ne_str_bool (fin_bl I q (by simp))
  | int j => obtain ⟨t', rfl⟩ := ry; exact PySem.EqMixed.ne_str_int (fin_bl I q (by simp))
  | str j => obtain ⟨t', rfl⟩ := ry; exact ne_str (fin_bl I q (congrArg not dec_str))
  | _ => exact absurd (show false = true from hs) Bool.false_ne_true
 | byt i =>
  obtain ⟨t, rfl⟩ := rx
  cases y with
  | byt j => obtain ⟨t', rfl⟩ := ry; exact PySem.W.ne_bytes (fin_bl I q (congrArg not dec_byt))
  | _ => exact absurd (show false = true from hs) Bool.false_ne_true
 | _ => cases y <;> exact absurd (show false = true from hs) Bool.false_ne_true
theorem op_lt : OpR X (compareOp .Lt) (rI0 fun i j => .bl (decide (i < j))) := opB0 fun _ _ _ _ _ _ _ q => lt_int q
theorem op_gt : OpR X (compareOp .Gt) (rI0 fun i j => .bl (decide (j < i))) := opB0 fun _ _ _ _ _ _ _ q => gt_int q
theorem op_ge : OpR X (compareOp .GtE) (rI0 fun i j => .bl (decide (j ≤ i))) := opB0 fun _ _ _ _ _ _ _ q => ge_int q
theorem nomark (b : Expr) {op : CmpOp} (h : op ≠ .In := by decide) (h2 : op ≠ .NotIn := by decide) : behindInMarks op b = false := by
 have e1 : (op == CmpOp.In) = false := by cases op <;> first | rfl | exact absurd rfl h
 have e2 : (op == CmpOp.NotIn) = false := by cases op <;> first | rfl | exact absurd rfl h2
 cases b <;> simp [behindInMarks, e1, e2]
theorem pe_cmpR {op : CmpOp} {r : R2} (ho : OpR X (compareOp op) r) (ha : PE X a ta) (hb : PE X b tb) (hm : behindInMarks op b = false) : PE X (.Compare a [op] [b] pos) (tOp r ta tb) := by
 intro pins s σ H Q I h
 exact wpAny_Compare1 (binT ha hb I h fun v u s2 x y H2 I2 rx ry q => ho pins s2 σ H2 x y v u Q I2 rx ry q) hm
noncomputable def tTest (t : TE) : TT := fun σ H Q => t σ H fun x H' => ∃ k, x = .bl k ∧ Q k H'
theorem line63 : (sizeLine : Nat) < 2 ^ 63 := by rw [sizeLine_eq]; decide
theorem vals1 {x : V} {us : List Value} (r : Vals [x] us) : ∃ u, us = [u] ∧ RelV x u := by
 cases r with
 | cons r1 r2 => cases r2; exact ⟨_, rfl, r1⟩
theorem call_int1 : CallR X (.type "int") (fun xs H Q => (∃ i, xs = [.int i] ∧ Q (.int i) H) ∨ ∃ k, xs = [.bl k] ∧ Q (.int (if k then 1 else 0)) H) := by
 intro pins s σ H xs us Q I r h
 rcases h with ⟨i, rfl, q⟩ | ⟨k, rfl, q⟩
 ·obtain ⟨u, rfl, t, rfl⟩ := vals1 r
  exact call_int_int ⟨.int i, H, I, ⟨_, rfl⟩, q⟩
 ·obtain ⟨u, rfl, r1⟩ := vals1 r
  cases r1
  exact call_int_bool ⟨.int (if k then 1 else 0), H, I.tok _, ⟨_, rfl⟩, q⟩
end
end L2
namespace L2
open PySem PySem.Spec PyProof.Rows
structure ObjM (h : Heap) (x dx C : Addr) (mA : Str → Option Value) : Prop where
 obj : h.get? x = some (PySem.W.instObj C dx)
 ns : h.Ns1 dx mA
 ne : dx ≠ x
theorem lookIn_ns {h : Heap} {dx : Addr} {mA : Str → Option Value} (n : h.Ns1 dx mA) : ∃ od, h.get? dx = some od ∧ ∀ name, PySem.W.lookIn name od = some (mA name) := by
 obtain ⟨o, es, ep, ho, hd, hk, _, hm⟩ := n
 refine ⟨o, ho, fun name => ?_⟩
 have e := hm name
 unfold nsFind findBy at e
 rw [← Array.find?_toList] at e
 unfold PySem.W.lookIn
 rw [hd]
 dsimp only
 split
 ·rename_i y q
  rw [q] at e
  exact congrArg some e
 ·rename_i q
  rw [q] at e
  have a : es.toList.any (·.refKey) = false := by
   rw [List.any_eq_false]
   intro y hy
   obtain ⟨z, t, hkey⟩ := hk y (Array.mem_toList_iff.mp hy)
   simp [DictEntry.refKey, hkey]
  have a' : ¬ es.toList.any (·.refKey) = true := by rw [a]; exact Bool.false_ne_true
  rw [if_neg a']
  exact congrArg some e
theorem ObjM.look {h : Heap} {x dx C : Addr} {mA : Str → Option Value} (I : ObjM h x dx C mA) : ∃ od, PySem.W.InstAt h x (PySem.W.instObj C dx) C (some od) ∧ ∀ name, PySem.W.lookIn name od = some (mA name) :=
 let ⟨od, ho, hl⟩ := lookIn_ns I.ns
 ⟨od, ⟨I.obj, rfl, rfl, ho⟩, hl⟩
theorem RelO.some_of {v : V} {o : Option Value} (r : RelO (some v) o) : ∃ u, o = some u ∧ RelV v u := by
 cases o with
 | none => exact (show False from r).elim
 | some u => exact ⟨u, rfl, r⟩
theorem RelO.none_of {o : Option Value} (r : RelO none o) : o = none := by
 cases o with
 | none => rfl
 | some u => exact (show False from r).elim
section
variable {P : Program} {w : World} {H H' : Hp} {h h' : Heap} {a C dx : Addr} {fs fs' : List (Str × V)}
theorem ins_get (hok : HOk P w H h) (e : H a = some (.ins C dx fs)) : ∃ mA, ObjM h a dx C mA ∧ (∀ f, RelO (fs.lookup f) (mA f)) ∧ PySem.Within mA (fs.map (·.1)) ∧ fs.length ≤ 1000 ∧ H dx = some (.own a) := by
 obtain ⟨d, z, ne, ob, mA, n, r, q⟩ := (show ObjOk P w H h a (.ins C dx fs) from hok a _ e)
 exact ⟨mA, ⟨ob, n, ne⟩, r, q, z, d⟩
end
structure Cls (K : PySem.W.Frag) (C : Addr) : Prop where
 pg : PySem.W.plainGet K C Str.empty = true
 hd : PySem.W.hasDictIn K C = true
 po : PySem.W.plainOver K C = true
 sa : PySem.W.findIn K (.ref C) "__setattr__" = some (some (.builtin "object.__setattr__"))
theorem Cls.get {K : PySem.W.Frag} {C : Addr} (c : Cls K C) (f : Str) : PySem.W.plainGet K C f = true := c.pg
section
variable {X : Cx} {pins : List (Addr × Obj)} {σ : St} {H : Hp} {s : Shared} {a C dx : Addr} {fs : List (Str × V)} {f : Str} {v : V} {A : Around} {E : Value → Shared → Prop}
theorem attr_of {prog : Program} {w : World} {env : Env} {e : Expr} {f : Str} {pos : Pos} {s : Shared} {Q : Value → Shared → Prop} (hb : attributeBase e f env (eval e env) = eval e env)
  (h : wpAny (model prog w) A (eval e env) (fun o s₁ => wpAny (model prog w) A (getAttr o f true) Q E s₁) E s) : wpAny (model prog w) A (eval (.Attribute e f pos) env) Q E s :=
 Attribute_any_ h (by rw [arm_eval_Attribute, hb])
end
section
variable {X : Cx} {pins : List (Addr × Obj)} {σ : St} {H : Hp} {s : Shared} {A : Around} {E : Value → Shared → Prop} {Q : Value → Shared → Prop} {c : Value} {b : Bool}
inductive TyOf (K : PySem.W.Frag) (H : Hp) : V → Value → Prop where
 | non : TyOf K H .non (.type "NoneType")
 | bl (x : Bool) : TyOf K H (.bl x) (.type "bool")
 | int (i : Int) : TyOf K H (.int i) (.type "int")
 | str (x : Str) : TyOf K H (.str x) (.type "str")
 | flt (x : UInt64) : TyOf K H (.flt x) (.type "float")
 | lst {a : Addr} {xs : List V} (e : H a = some (.lst xs)) : TyOf K H (.ref a) (.type "list")
 | frz {a : Addr} {o : Obj} {xs : List V} (e : H a = some (.frz o (.lst xs))) : TyOf K H (.ref a) (.type "list")
 | tup {a : Addr} {xs : List V} (e : H a = some (.tup xs)) : TyOf K H (.ref a) (.type "tuple")
 | dK {a : Addr} {kvs : List (Key × V)} (e : H a = some (.dK kvs)) : TyOf K H (.ref a) (.type "dict")
 | dT {a : Addr} {kvs : List (List Key × V)} (e : H a = some (.dT kvs)) : TyOf K H (.ref a) (.type "dict")
 | ins {a C dx : Addr} {fs : List (Str × V)} (e : H a = some (.ins C dx fs)) (cl : Cls K C) (ha : PySem.W.findIn K (.ref C) "__class__" = some (some (.builtin "object.__class__")))
   (hn : PySem.W.specialIn K (.builtin "object.__class__") "__get__" = some (some (.builtin "getset_descriptor.__get__"))) (htk : PySem.W.takesIn K (.builtin "object.__class__") = some true)
   (hm : PySem.W.mroIn K C (.type "object") = some true) : TyOf K H (.ref a) (.ref C)
theorem isinst_ok {x : V} {u t : Value} (I : Inv X pins σ H s) (rx : RelV x u) (ty : TyOf X.K H x t) (e : PySem.W.kitOne X.K t c = some b) (h : ∀ tk, Q (.bool b) { s with toks := tk }) :
  wpAny (model X.prog X.w) A (call (.builtin "isinstance") [u, c]) Q E s := by
 cases ty with
 | non => cases (show u = Value.none from rx); exact PySem.W.kia_one PySem.W.kitx_none I.kIn True.intro e (fun z => nomatch z) h
 | bl y => cases (show u = Value.bool y from rx); exact PySem.W.kia_one PySem.W.kitx_bool I.kIn True.intro e (fun z => nomatch z) h
 | int i => obtain ⟨t, q⟩ := (show ∃ t, u = Value.int i t from rx); cases q; exact PySem.W.kia_one PySem.W.kitx_int I.kIn True.intro e (fun z => nomatch z) h
 | str y => obtain ⟨t, q⟩ := (show ∃ t, u = Value.str y t from rx); cases q; exact PySem.W.kia_one PySem.W.kitx_str I.kIn True.intro e (fun z => nomatch z) h
 | flt y => obtain ⟨t, q⟩ := (show ∃ t, u = Value.float y t from rx); cases q; exact PySem.W.kia_one PySem.W.kitx_float I.kIn True.intro e (fun z => nomatch z) h
 | @lst a xs ea =>
  cases (show u = Value.ref a from rx)
  obtain ⟨_, _, n, _, h1⟩ := (show ObjOk X.prog X.w H s.heap a (.lst xs) from I.hok a _ ea)
  exact PySem.W.kia_one PySem.W.kitx_list I.kIn ⟨_, h1, rfl⟩ e (fun z => nomatch z) h
 | @frz a ob xs ea =>
  cases (show u = Value.ref a from rx)
  obtain ⟨_, _, _, n, _, h1⟩ := (show ObjOk X.prog X.w H s.heap a (.frz ob (.lst xs)) from I.hok a _ ea)
  exact PySem.W.kia_one PySem.W.kitx_list I.kIn ⟨_, h1, rfl⟩ e (fun z => nomatch z) h
 | @tup a xs ea =>
  cases (show u = Value.ref a from rx)
  obtain ⟨_, _, _, p⟩ := (show ObjOk X.prog X.w H s.heap a (.tup xs) from I.hok a _ ea)
  obtain ⟨o, h1, h2, _⟩ := p
  exact PySem.W.kia_one PySem.W.kitx_tuple I.kIn ⟨o, h1, h2⟩ e (fun z => nomatch z) h
 | @dK a kvs ea =>
  cases (show u = Value.ref a from rx)
  obtain ⟨_, _, vs, _, p⟩ := (show ObjOk X.prog X.w H s.heap a (.dK kvs) from I.hok a _ ea)
  obtain ⟨o, es, ep, h1, h2, _⟩ := p
  exact PySem.W.kia_one PySem.W.kitx_dict I.kIn ⟨o, h1, h2.1⟩ e (fun z => nomatch z) h
 | @dT a kvs ea =>
  cases (show u = Value.ref a from rx)
  obtain ⟨_, _, xs, _, o, es, ep, h1, h2, _⟩ := (show ObjOk X.prog X.w H s.heap a (.dT kvs) from I.hok a _ ea)
  exact PySem.W.kia_one PySem.W.kitx_dict I.kIn ⟨o, h1, h2.1⟩ e (fun z => nomatch z) h
 | @ins a C dx fs ea cl ha hn htk hm =>
  cases (show u = Value.ref a from rx)
  obtain ⟨mA, O, _⟩ := ins_get I.hok ea
  obtain ⟨od, J, _⟩ := O.look
  exact PySem.W.kia_one (PySem.W.kitx_own (cl.get _) cl.hd ha hn htk hm) I.kIn J e (fun z => nomatch z) h
end
end L2
namespace L2
open PySem PySem.Spec PyProof.Rows
structure Room (k : Nat) (A : Around) : Prop where
 hd : A.handled = none
 dp : A.depth + 3 * k + 5 < recursionLimit
 un : A.units + 16 * k + 200 < cLine
theorem Room.mono {j k : Nat} {A : Around} (r : Room k A) (h : j ≤ k) : Room j A := ⟨r.hd, by have := r.dp; omega, by have := r.un; omega⟩
theorem Room.deeper {k : Nat} {A : Around} (r : Room (k + 1) A) (env : Env) : Room k (A.deeper env) :=
 ⟨r.hd, by have := r.dp; show A.depth + 1 + 3 * k + 5 < _; omega, by have := r.un; show A.units + 3 + 16 * k + 200 < _; omega⟩
theorem Room.in1 {k : Nat} {A : Around} (r : Room (k + 1) A) : Room k A.in1 :=
 ⟨r.hd, by have := r.dp; show A.depth + 3 * k + 5 < _; omega, by have := r.un; show A.units + 1 + 16 * k + 200 < _; omega⟩
theorem make_depth {A : Around} {C : Addr} {us : List Value} {kw : List (Str × Value)} : (A.under (.builtin "type.__call__" ⟨.ref C :: us, kw⟩)).depth = A.depth + 1 := by
 first | rfl | simp [Around.under, Code.weight, Code.isCreation, Code.isGuard, Code.isCaller, Code.frames, Code.isFrame, guardIds]
theorem Room.depth {k : Nat} {A : Around} (r : Room k A) : A.depth < recursionLimit := by have := r.dp; omega
theorem Room.units {k : Nat} {A : Around} (r : Room k A) : A.units + 64 < cLine := by have := r.un; omega
theorem Room.units0 {k : Nat} {A : Around} (r : Room k A) : A.units < cLine := by have := r.un; omega
noncomputable def tNil : TA := fun _ H Q => Q [] H
noncomputable def tCons (ta : TE) (tr : TA) : TA := fun σ H Q => ta σ H fun x H1 => tr σ H1 fun xs H2 => Q (x :: xs) H2
section
variable {X : Cx} {e : Expr} {es : List Expr} {te : TE} {t : TA} {pos : Pos}
theorem pa_nil : PA X [] tNil := fun _ _ _ _ H Q I h => Calls.spliced_nil ⟨[], H, I, .nil, h⟩
theorem pa_cons (ha : PE X e te) (hr : PA X es t) (hs : starEach (e :: es) X.env = (false, eval e X.env) :: starEach es X.env := by rfl) : PA X (e :: es) (tCons te t) := by
 intro pos pins s σ H Q I h
 rw [hs]
 show wpAny _ _ (spliced ((false, eval e X.env) :: backTo pos (starEach es X.env))) _ _ s
 refine Calls.spliced_cons (thn (ha pins s σ H _ I h) fun u s1 ⟨x, H1, I1, r1, q1⟩ => ?_)
 exact thn (hr pos pins s1 σ H1 _ I1 q1) fun us s2 ⟨xs, H2, I2, r2, q2⟩ => ⟨x :: xs, H2, I2, .cons r1 r2, q2⟩
noncomputable def tTup (t : TA) : TE := fun σ H Q => t σ H fun xs H1 => xs.length ≤ sizeLine ∧ ∀ p, H1 p = none → Q (.ref p) (upd H1 p (.tup xs))
noncomputable def tLst (t : TA) : TE := fun σ H Q => t σ H fun xs H1 => xs.length ≤ sizeLine ∧ ∀ p, H1 p = none → Q (.ref p) (upd H1 p (.lst xs))
theorem pe_tup {x1} (h : PA X es t) : PE X (.Tuple es x1 pos) (tTup t) := by
 intro pins s σ H Q I hq
 refine wpAny_Tuple_spliced (thn (h pos pins s σ H _ I hq) fun us s1 ⟨xs, H1, I1, r, z, q⟩ => ⟨by rw [← r.length]; exact z, ?_⟩)
 have hf : H1 s1.heap.objs.size = none := I1.hok.fresh (Nat.le_refl _)
 refine ⟨.ref s1.heap.objs.size, upd H1 s1.heap.objs.size (.tup xs), I1.laid (t' := s1.toks) (fun b u e => Heap.get?_push_of_some _ e) (Nat.le_refl _) ?_, rfl, q _ hf⟩
 exact ⟨z, us, r, ⟨_, Heap.get?_push_size _ rfl, rfl, _, rfl⟩⟩
theorem pe_lst (h : PA X es t) : PE X (.List es pos) (tLst t) := by
 intro pins s σ H Q I hq
 refine wpAny_List_spliced (thn (h pos pins s σ H _ I hq) fun us s1 ⟨xs, H1, I1, r, z, q⟩ => ⟨by rw [← r.length]; exact z, ?_⟩)
 have hf : H1 s1.heap.objs.size = none := I1.hok.fresh (Nat.le_refl _)
 refine ⟨.ref s1.heap.objs.size, upd H1 s1.heap.objs.size (.lst xs), I1.laid (t' := s1.toks) (fun b u e => Heap.get?_push_of_some _ e) (Nat.le_refl _) ?_, rfl, q _ hf⟩
 exact ⟨z, us, 0, r, Heap.get?_push_size _ rfl⟩
end
noncomputable abbrev Sp := List V → Hp → VK → XK → Prop
noncomputable abbrev CXT := List Env → Hp → Shared → XK → Value → Shared → Prop
structure Env0 (P : Program) (w : World) (K : PySem.W.Frag) (mg : Str → Option Value) (base : Heap) (A : Around) (outer : List Env) (s : Shared) (H : Hp) : Prop where
 frames : A.frames = some outer
 mod : Mod K mg base
 bs : ∀ b o, base.get? b = some o → s.heap.get? b = some o ∧ H b = none
 bsz : base.objs.size ≤ s.heap.objs.size
 funs : s.heap.FunFrames base outer
 frf : ∀ b ∈ frs outer, H b = none
 hok : HOk P w H s.heap
 bare : AllBare s.gens
noncomputable def CE (outer : List Env) (P : Program) (w : World) (H : Hp) (s : Shared) (Q : VK) (u : Value) (s' : Shared) : Prop :=
 ∃ v H', s'.os = s.os ∧ AllBare s'.gens ∧ Un (frs outer) [] H H' s.heap s'.heap ∧ HOk P w H' s'.heap ∧ RelV v u ∧ Q v H'
noncomputable def CR (CX : CXT) (outer : List Env) (P : Program) (w : World) (H : Hp) (s : Shared) (Q : VK) (E : XK) (r : Result) (s' : Shared) : Prop :=
 match r with
 | .ok (.ret u) => CE outer P w H s Q u s'
 | .ok _ => False
 | .error e => CX outer H s E e s'
structure FnOk (P : Program) (w : World) (K : PySem.W.Frag) (mg : Str → Option Value) (base : Heap) (CX : CXT) (k : Nat) (f : Addr) (fd : FuncData) (ps : List Str) (sp : Sp) : Prop where
 len : ∀ vs H Q E, sp vs H Q E → vs.length = ps.length
 run : ∀ (A : Around) (outer : List Env) (s : Shared) (H : Hp) (args : Args) (us : List Value) (vs : List V) (Q : VK) (E : XK), Room k A → Env0 P w K mg base A outer s H → BindsTo s fd args (ps.zip us) → Vals vs us → sp vs H Q E →
  codeAny (model P w) A (.call (.ref f) args) (CR CX outer P w H s Q E) s
theorem FnOk.mono {P : Program} {w : World} {K : PySem.W.Frag} {mg : Str → Option Value} {base : Heap} {CX : CXT} {j k : Nat} {f : Addr} {fd : FuncData} {ps : List Str} {sp : Sp} (F : FnOk P w K mg base CX j f fd ps sp) (h : j ≤ k) :
  FnOk P w K mg base CX k f fd ps sp := ⟨F.len, fun A outer s H args us vs Q E hr => F.run A outer s H args us vs Q E (hr.mono h)⟩
theorem FnOk.imp {P : Program} {w : World} {K : PySem.W.Frag} {mg : Str → Option Value} {base : Heap} {CX : CXT} {k : Nat} {f : Addr} {fd : FuncData} {ps : List Str} {sp sp' : Sp} (F : FnOk P w K mg base CX k f fd ps sp)
  (h : ∀ vs H Q E, sp' vs H Q E → sp vs H Q E) : FnOk P w K mg base CX k f fd ps sp' :=
 ⟨fun vs H Q E q => F.len vs H Q E (h _ _ _ _ q), fun A outer s H args us vs Q E hr he hb hv hs => F.run A outer s H args us vs Q E hr he hb hv (h _ _ _ _ hs)⟩
theorem Env0.in1 {P : Program} {w : World} {K : PySem.W.Frag} {mg : Str → Option Value} {base : Heap} {A : Around} {outer : List Env} {s : Shared} {H : Hp} (e : Env0 P w K mg base A outer s H) :
  Env0 P w K mg base A.in1 outer s H := ⟨e.frames, e.mod, e.bs, e.bsz, e.funs, e.frf, e.hok, e.bare⟩
section
variable {X : Cx} {pins : List (Addr × Obj)} {σ : St} {H : Hp} {s s' : Shared}
theorem Inv.env0 (I : Inv X pins σ H s) : Env0 X.prog X.w X.K X.mg X.base X.A X.stack s H :=
 ⟨I.ok.frames, I.ok.mod, I.bs, Nat.le_trans I.ok.bsz I.sz, I.stack, I.stkFree, I.hok, I.bare⟩
theorem Inv.after {Q : VK} {u : Value} (I : Inv X pins σ H s) (h : CE X.stack X.prog X.w H s Q u s') : EP X pins σ Q u s' := by
 obtain ⟨v, H', os, bare, un, hok, r, q⟩ := h
 obtain ⟨hh, g, d, t, os'⟩ := s'
 obtain rfl : os' = s.os := os
 exact ⟨v, H', I.call (h' := hh) (g' := g) (d' := d) (t' := t) (ch := []) un hok bare (fun b z => absurd z (by simp)), r, q⟩
end
noncomputable def tCall (sp : Sp) (dvs : List V) (E : XK) (t : TA) : TE := fun σ H Q => t σ H fun vs H1 => sp (vs ++ dvs) H1 Q E
noncomputable def Binds (K : PySem.W.Frag) (fd : FuncData) (ps : List Str) (ds : List Value) : Prop :=
 ∀ (s : Shared) (us : List Value), K.In s.heap → (us ++ ds).length = ps.length → BindsTo s fd ⟨us, []⟩ (ps.zip (us ++ ds))
theorem Binds.all {K : PySem.W.Frag} {fd : FuncData} {ps : List Str} (h : ∀ us : List Value, us.length = ps.length → bindArgs fd ⟨us, []⟩ = pure (ps.zip us)) : Binds K fd ps [] := fun s us _ hl => by
 rw [List.append_nil] at hl ⊢
 exact .of_eq (h us hl)
noncomputable def Passes (CX : CXT) (X : Cx) (E : XK) : Prop := ∀ (pins : List (Addr × Obj)) (σ : St) (H : Hp) (s : Shared) (e : Value) (s' : Shared), Inv X pins σ H s → CX X.stack H s E e s' → X.xe e s'
section
variable {X : Cx} {CX : CXT} {k : Nat} {f C : Addr} {fd : FuncData} {ps : List Str} {sp : Sp} {dvs : List V} {ds : List Value} {E : XK} {x m : Str} {p pos apos : Pos} {e o : Expr} {es : List Expr} {ta : TE} {t : TA}
theorem run_fn {pins : List (Addr × Obj)} {σ : St} {H : Hp} {s : Shared} {Q : VK} {us : List Value} {vs : List V} (F : FnOk X.prog X.w X.K X.mg X.base CX k f fd ps sp) (hr : Room k X.A) (hb : Binds X.K fd ps ds) (hd : Vals dvs ds) (hx : Passes CX X E)
  (I : Inv X pins σ H s) (r : Vals vs us) (h : sp (vs ++ dvs) H Q E) : wpAny (model X.prog X.w) X.A (call (.ref f) us) (EP X pins σ Q) X.xe s := by
 have r2 : Vals (vs ++ dvs) (us ++ ds) := r.append hd
 have hl : (us ++ ds).length = ps.length := by rw [← r2.length]; exact F.len _ _ _ _ h
 refine wpAny_call (codeAny_mono (F.run X.A X.stack s H ⟨us, []⟩ (us ++ ds) (vs ++ dvs) Q E hr I.env0 (hb s us I.kIn hl) r2 h) fun r s' hq => ?_)
 cases r with
 | error e => exact hx pins σ H s e s' I hq
 | ok fl =>
  cases fl with
  | ret u => exact I.after hq
  | next => exact False.elim hq
  | brk => exact False.elim hq
  | cont => exact False.elim hq
theorem pe_call (F : FnOk X.prog X.w X.K X.mg X.base CX k f fd ps sp) (hr : Room k X.A) (hg : Gl X x) (hm : X.mg x = some (.ref f)) (hk : PySem.W.keepIn X.K (.ref f) = true) (hb : Binds X.K fd ps ds) (hd : Vals dvs ds) (hx : Passes CX X E)
  (ha : PA X (e :: es) t) (hdb : (x == ("__debug__" : Str)) = false := by decide) (he : starEach (e :: es) X.env = (false, eval e X.env) :: starEach es X.env := by rfl) (hpl : (backTo pos (starEach es X.env)).any (·.1) = false := by rfl) :
  PE X (.Call (.Name x p) (e :: es) [] pos) (tCall sp dvs E t) := by
 intro pins s σ H Q I h
 refine wpAny_Call_Name_kw (ld_glob I hg hm ?_ hdb)
 refine PySem.W.callWith_K (h₀ := X.base) I.ok.mod.kin hk (thn (ha pos pins s σ H _ I h) fun us s1 ⟨vs, H1, I1, r, q⟩ => ⟨I1.kIn, ?_⟩) he hpl
 exact run_fn F hr hb hd hx I1 r q
end
structure FnScope (N P : List Str) (sc : Scope) : Prop where
 kind : sc.kind = .function
 co : sc.isCoroutine = false
 gen : sc.isGenerator = false
 nd : N.Nodup
 pre : N.take P.length = P
 par : ∀ x ∈ P, sc.names.lookup x = some .local ∨ sc.names.lookup x = some .cell
 nofree : ∀ y ∈ sc.names, y.2 ≠ .free
theorem bindL_out {kindOf : Str → Option NameKind} {x : Str} : ∀ {binds : List (Str × Value)} {m : Str → Option Value}, (∀ v, (x, v) ∉ binds) → bindL kindOf binds m x = m x
 | [], _, _ => rfl
 | (n, v) :: r, m, h => by
  unfold bindL
  rw [bindL_out fun w hw => h w (List.mem_cons_of_mem _ hw)]
  split
  ·have : x ≠ n := by rintro rfl; exact h v List.mem_cons_self
   simp [this]
  ·rfl
theorem bindC_out {kindOf : Str → Option NameKind} {x : Str} : ∀ {binds : List (Str × Value)} {m : Str → Option Value}, (∀ v, (x, v) ∉ binds) → bindC kindOf binds m x = m x
 | [], _, _ => rfl
 | (n, v) :: r, m, h => by
  unfold bindC
  rw [bindC_out fun w hw => h w (List.mem_cons_of_mem _ hw)]
  split
  ·rfl
  ·have : x ≠ n := by rintro rfl; exact h v List.mem_cons_self
   simp [this]
theorem bindL_get {kindOf : Str → Option NameKind} {x : Str} {v : Value} : ∀ {P : List Str} {vs : List Value} {i : Nat} {m : Str → Option Value}, P.Nodup → P[i]? = some x → vs[i]? = some v → kindOf x = some .local →
  bindL kindOf (P.zip vs) m x = some v
 | [], _, _, _, _, h, _, _ => by simp at h
 | _ :: _, [], _, _, _, _, h, _ => by simp at h
 | p :: P, w :: vs, 0, m, nd, h1, h2, hk => by
  simp at h1 h2; subst h1; subst h2
  show bindL kindOf ((p, w) :: P.zip vs) m p = _
  unfold bindL
  rw [bindL_out fun v hv => (List.nodup_cons.mp nd).1 (List.of_mem_zip hv).1, if_pos hk]
  simp
 | p :: P, w :: vs, i + 1, m, nd, h1, h2, hk => by
  show bindL kindOf ((p, w) :: P.zip vs) m x = _
  unfold bindL
  exact bindL_get (i := i) (List.nodup_cons.mp nd).2 (by simpa using h1) (by simpa using h2) hk
theorem bindC_get {kindOf : Str → Option NameKind} {x : Str} {v : Value} : ∀ {P : List Str} {vs : List Value} {i : Nat} {m : Str → Option Value}, P.Nodup → P[i]? = some x → vs[i]? = some v → kindOf x ≠ some .local →
  bindC kindOf (P.zip vs) m x = some v
 | [], _, _, _, _, h, _, _ => by simp at h
 | _ :: _, [], _, _, _, _, h, _ => by simp at h
 | p :: P, w :: vs, 0, m, nd, h1, h2, hk => by
  simp at h1 h2; subst h1; subst h2
  show bindC kindOf ((p, w) :: P.zip vs) m p = _
  unfold bindC
  rw [bindC_out fun v hv => (List.nodup_cons.mp nd).1 (List.of_mem_zip hv).1, if_neg hk]
  simp
 | p :: P, w :: vs, i + 1, m, nd, h1, h2, hk => by
  show bindC kindOf ((p, w) :: P.zip vs) m x = _
  unfold bindC
  exact bindC_get (i := i) (List.nodup_cons.mp nd).2 (by simpa using h1) (by simpa using h2) hk
noncomputable def start (N : List Str) (vs : List V) : St := vs.map some ++ List.replicate (N.length - vs.length) none
noncomputable def cxOf (CX : CXT) (P : Program) (w : World) (K : PySem.W.Frag) (mg : Str → Option Value) (base : Heap) (N : List Str) (qual : Str) (scope : Scope) (f : Addr) (cd : Value) (A : Around) (outer : List Env) (s : Shared) (H : Hp) (E : XK) : Cx where
 prog := P
 w := w
 K := K
 mg := mg
 base := base
 A := A.deeper (envOfC qual scope s.heap.objs.size f cd)
 N := N
 s₀ := s
 H₀ := H
 env := envOfC qual scope s.heap.objs.size f cd
 outer := outer
 stack := envOfC qual scope s.heap.objs.size f cd :: outer
 ex := []
 calm := true
 fn := fun _ => true
 pn := []
 xe := fun e s' => wpAny (model P w) (A.deeper (envOfC qual scope s.heap.objs.size f cd)) (leaving (envOfC qual scope s.heap.objs.size f cd) e) (fun _ s'' => CX outer H s E e s'') (fun e' s'' => CX outer H s E e' s'') s'
theorem cell_has {sc : Scope} {n : Nat} {x : Str} (h : sc.names.lookup x = some .cell) : ∃ c, (cellsFrom n sc.names []).lookup x = some c := by
 have q := PySem.W.cellsFrom_some sc.names n [] (.inl h)
 exact Option.isSome_iff_exists.mp q
theorem inv_start {CX : CXT} {P : Program} {w : World} {K : PySem.W.Frag} {mg : Str → Option Value} {base : Heap} {N ps : List Str} {qual : Str} {scope : Scope} {f : Addr} {cd : Value} {A : Around} {outer : List Env} {s s1 : Shared} {H : Hp} {E : XK} {us : List Value} {vs : List V}
  (S : FnScope N ps scope) (hd : A.handled = none) (e0 : Env0 P w K mg base A outer s H) (hl : vs.length = ps.length) (r : Vals vs us)
  (x : InCallC s s.heap.objs.size (bindL (envOfC qual scope s.heap.objs.size f cd).kindOf (ps.zip us) fun _ => none) (cellsFrom (s.heap.objs.size + 1) scope.names []) (bindC (envOfC qual scope s.heap.objs.size f cd).kindOf (ps.zip us) fun _ => none) s1) :
  Inv (cxOf CX P w K mg base N qual scope f cd A outer s H E) [] (start N vs) H s1 := by
 have hpl : ps.length ≤ N.length := by have := congrArg List.length S.pre; rw [List.length_take] at this; omega
 obtain ⟨h1, tk, rfl, hk⟩ := x.done
 have noA : ∀ b : Addr, b ∉ (cxOf CX P w K mg base N qual scope f cd A outer s H E).ex := fun b z => absurd (show b ∈ ([] : List Addr) from z) (by simp)
 refine ⟨⟨e0.mod, S.kind, rfl, rfl, Nat.le_refl _, fun y z c h1 h2 => ?_, fun y hy => ?_, fun y c _ h => ?_, fun _ => hd, Around.frames_deeper e0.frames, .inr ⟨rfl, rfl⟩, fun b z => absurd z (noA b), e0.bs, e0.bsz, fun b _ _ => noA b, fun b z => absurd z (noA b), e0.funs, e0.frf⟩,
  rfl, e0.bare, Un.kept hk, ⟨_, x.toInCall.ns, fun i y v h1 h2 h3 => ?_⟩, fun y c h => ⟨_, x.cell y c h⟩, e0.hok.fresh (Nat.le_refl _), fun y c h => ?_, fun p hp => absurd (show p ∈ ([] : List (Addr × Obj)) from hp) (by simp), e0.hok.kept hk, ?_⟩
 ·exact name_of_addr x.apart (PySem.mem_of_lookup h1) (PySem.mem_of_lookup h2)
 ·have hy : scope.names.lookup y = some .cell ∨ scope.names.lookup y = some .free := hy
  rcases hy with hy | hy
  ·exact cell_has hy
  ·exact absurd rfl (S.nofree _ (PySem.mem_of_lookup hy))
 ·exact Nat.le_of_lt (x.above y c (PySem.mem_of_lookup h))
 ·have hi : i < vs.length := by
   unfold start at h2
   by_cases hi : i < vs.length
   ·exact hi
   ·rw [List.getElem?_append_right (by simpa using hi)] at h2
    rw [List.getElem?_replicate] at h2
    split at h2 <;> cases h2
  have ha : vs[i]? = some v := by
   unfold start at h2
   rw [List.getElem?_append_left (by simpa using hi), List.getElem?_map] at h2
   cases e : vs[i]? with
   | none => rw [e] at h2; cases h2
   | some a => rw [e] at h2; cases h2; rfl
  obtain ⟨u, hu, rv⟩ := r.get ha
  have hp : ps[i]? = some y := by
   rw [← S.pre, List.getElem?_take_of_lt (by omega)]; exact h1
  have ndP : ps.Nodup := by rw [← S.pre]; exact S.nd.sublist (List.take_sublist _ _)
  refine ⟨u, rv, ?_⟩
  rcases S.par y (List.mem_of_getElem? hp) with k | k
  ·exact .inl ⟨k, bindL_get ndP hp hu k⟩
  ·obtain ⟨c, e⟩ := cell_has (n := s.heap.objs.size + 1) k
   refine .inr ⟨.inl k, c, e, ?_⟩
   have q := x.cell y c e
   rw [bindC_get ndP hp hu (by show scope.names.lookup y ≠ _; rw [k]; decide)] at q
   exact q
 ·exact e0.hok.fresh (Nat.le_of_lt (x.above y c (PySem.mem_of_lookup h)))
 ·unfold start
  show _ = N.length
  rw [List.length_append, List.length_map, List.length_replicate]
  omega
theorem fn_of {CX : CXT} {P : Program} {w : World} {K : PySem.W.Frag} {mg : Str → Option Value} {base : Heap} {k : Nat} {f : Addr} {name qual : Str} {params : Arguments} {body : List Stmt} {scope : Scope} {dV kV doc pm cdv ct oc : Value} {an od : Option Addr}
  {osl : Array (Option Value)} {N ps : List Str} {sp : Sp} (lk : K.lookup f = some ⟨oc, od, .func (PySem.W.fnOf name qual params body scope dV kV doc pm an cdv ct), osl⟩) (hcd : PySem.W.codeIn K cdv qual = true) (S : FnScope N ps scope)
  (len : ∀ vs H Q E, sp vs H Q E → vs.length = ps.length)
  (hbody : ∀ (A : Around) (outer : List Env) (s : Shared) (H : Hp) (vs : List V) (Q : VK) (E : XK), Room k (A.deeper (envOfC qual scope s.heap.objs.size f cdv)) → sp vs H Q E →
   ∃ t, PSs (cxOf CX P w K mg base N qual scope f cdv A outer s H E) body t ∧ t { nx := fun _ H' => Q .non H', rt := Q } (start N vs) H) :
  FnOk P w K mg base CX (k + 1) f (PySem.W.fnOf name qual params body scope dV kV doc pm an cdv ct) ps sp := by
 refine ⟨len, fun A outer s H args us vs Q E hr e0 hb r hsp => ?_⟩
 have hl := len _ _ _ _ hsp
 have KX : K.In s.heap := e0.mod.kin.keeps fun b o e => (e0.bs b o e).1
 have lim : s.heap.NoLimit := e0.mod.nolimit.keeps fun b o e => (e0.bs b o e).1
 have hkind : ∀ y ∈ ps.zip us, scope.names.lookup y.1 = some .local ∨ (scope.names.lookup y.1 = some .cell ∧ ((cellsFrom (s.heap.objs.size + 1) scope.names []).lookup y.1).isSome = true) := fun ⟨n, v⟩ hy => by
  rcases S.par n (List.of_mem_zip hy).1 with q | q
  ·exact .inl q
  ·exact .inr ⟨q, PySem.W.cellsFrom_some _ _ _ (.inl q)⟩
 refine codeAny_call_function hr.depth (KX _ _ lk) rfl S.co S.gen rfl (PySem.W.codeRec_of KX hcd) (hb _ _ _ _ ?_)
 refine wpAny_newFunctionEnv_cells S.kind hkind fun env he s1 x => ?_
 subst he
 refine ⟨lim.keeps x.toInCall.keep, codeAny_func ?_⟩
 obtain ⟨t, ht, hq⟩ := hbody A outer s H vs Q E (hr.deeper _) hsp
 have I : Inv (cxOf CX P w K mg base N qual scope f cdv A outer s H E) [] (start N vs) H s1 := inv_start S hr.hd e0 hl r x
 refine wpAny_mono (ht [] s1 (start N vs) H _ I hq) (fun fl s' hs => ?_) fun e s' hs => hs
 have fin : ∀ {σ' : St} {H' : Hp} {v : V} {u : Value}, Inv (cxOf CX P w K mg base N qual scope f cdv A outer s H E) [] σ' H' s' → RelV v u → Q v H' → CE outer P w H s Q u s' :=
  fun {σ' H' v u} J rv q => ⟨v, H', J.os, J.bare, J.base, J.hok, rv, q⟩
 cases fl with
 | ret u =>
  obtain ⟨v, σ', H', J, rv, q⟩ := hs
  exact fin J rv q
 | next =>
  obtain ⟨σ', H', J, q⟩ := hs
  exact fin (v := V.non) (u := Value.none) J rfl q
 | brk =>
  obtain ⟨_, _, _, q⟩ := hs
  exact False.elim q
 | cont =>
  obtain ⟨_, _, _, q⟩ := hs
  exact False.elim q
end L2
namespace L2
open PySem PySem.Spec PyProof.Rows
section
variable {X : Cx} {x : Str} {p pos : Pos} {e : Expr} {es : List Expr} {t : TA} {id T : String} {r : List V → Hp → VK → Prop}
noncomputable def tCB (r : List V → Hp → VK → Prop) (t : TA) : TE := fun σ H Q => t σ H fun vs H1 => r vs H1 Q
theorem pe_callB (hc : CallR X (.builtin id) r) (hg : Gl X x) (hm : X.mg x = none) (hv : bootBuiltins x = some (.builtin id)) (ha : PA X (e :: es) t) (hn : x ≠ "__name__" := by decide) (hdb : (x == ("__debug__" : Str)) = false := by decide)
  (he : starEach (e :: es) X.env = (false, eval e X.env) :: starEach es X.env := by rfl) (hpl : (backTo pos (starEach es X.env)).any (·.1) = false := by rfl) : PE X (.Call (.Name x p) (e :: es) [] pos) (tCB r t) := by
 intro pins s σ H Q I h
 refine wpAny_Call_Name_kw (ld_blt I hg hm hv ?_ hn hdb)
 exact PyProof.Rows.callWith_builtin1 (thn (ha pos pins s σ H _ I h) fun us s1 ⟨vs, H1, I1, r1, q1⟩ => hc pins s1 σ H1 vs us Q I1 r1 q1) he hpl
theorem pe_callTy (hc : CallR X (.type T) r) (hg : Gl X x) (hm : X.mg x = none) (hv : bootBuiltins x = some (.type T)) (ha : PA X (e :: es) t) (hn : x ≠ "__name__" := by decide) (hdb : (x == ("__debug__" : Str)) = false := by decide)
  (he : starEach (e :: es) X.env = (false, eval e X.env) :: starEach es X.env := by rfl) (hpl : (backTo pos (starEach es X.env)).any (·.1) = false := by rfl) : PE X (.Call (.Name x p) (e :: es) [] pos) (tCB r t) := by
 intro pins s σ H Q I h
 refine wpAny_Call_Name_kw (ld_blt I hg hm hv ?_ hn hdb)
 exact PyProof.Rows.callWith_type1 (thn (ha pos pins s σ H _ I h) fun us s1 ⟨vs, H1, I1, r1, q1⟩ => hc pins s1 σ H1 vs us Q I1 r1 q1) he hpl
end
end L2
namespace HT
open PySem PyProof.Rows
noncomputable def lexLt : List Int → List Int → Bool
 | [], [] => false
 | [], _ :: _ => true
 | _ :: _, [] => false
 | x :: xs, y :: ys => if x = y then lexLt xs ys else decide (x < y)
theorem lexLt_cons (x y : Int) (xs ys : List Int) : lexLt (x :: xs) (y :: ys) = if x = y then lexLt xs ys else decide (x < y) := rfl
theorem lexLt_nil_nil : lexLt [] [] = false := rfl
theorem lexLt_nil_cons (y : Int) (ys : List Int) : lexLt [] (y :: ys) = true := rfl
theorem lexLt_cons_nil (x : Int) (xs : List Int) : lexLt (x :: xs) [] = false := rfl
theorem eqAt_int (A : Around) (s : Shared) (a : Int) (t : Tok) (c : Int) (u : Tok) : ∃ e, SeqAt.EqAt A s (.int a t) (.int c u) e ∧ (e = true ↔ a = c) :=
 ⟨(a == c), SeqAt.EqAt.int_int a t c u, by simp⟩
theorem rcLt_int (A : Around) (s : Shared) (a : Int) (t : Tok) (c : Int) (u : Tok) (prog : Program) (w : World) (E : Value → Shared → Prop) (Q : Value → Shared → Prop) (h : Q (.bool (decide (a < c))) s) :
  wpAny (model prog w) A (richCompare .Lt (.int a t) (.int c u)) Q E s :=
 (PyProof.Rows.lt_int h : wpAny (model prog w) A (compareOp .Lt (.int a t) (.int c u)) Q E s)
section
open PySem.SeqAt
open PySem.AutoSeq1 (wpAny_loadPart')
open PySem.MeetsSeq PySem.MeetsSeq2 PySem.MeetsSeq3
theorem tuple_lt_ints (l b : Addr) (items items2 : Array Value) (n n2 : Nat) (dd dd2 : Option Addr) (sl sl2 : Array (Option Value)) (ns ms : List Int) (hi : IntsAre items.toList ns) (hj : IntsAre items2.toList ms) :
  Meets (Builtin.«tuple.__lt__» ⟨[.ref l, .ref b], []⟩)
   (fun _ R s => s.heap.get? l = some { cls := .type "tuple", dict := dd, data := .seq items n, slots := sl } ∧ s.heap.get? b = some { cls := .type "tuple", dict := dd2, data := .seq items2 n2, slots := sl2 } ∧
    R (.ok (.ret (.bool (lexLt ns ms)))) s) :=
 .of_wp fun prog w A R s h => by
  obtain ⟨hp, g, d, tk, os⟩ := s; obtain ⟨hl, hb, h⟩ := h
  have f2 := AutoSeq1.sub_tuple_tuple
  have z1 : items.size = ns.length := by rw [← hi.length]; simp
  have z2 : items2.size = ms.length := by rw [← hj.length]; simp
  wp_walk using wpAny_loadPart' hl, wpAny_loadPart' hb, wpAny_forIn_list _ (fun rest b s' => b.1 = none ∧ s' = ⟨hp, g, d, tk, os⟩ ∧ ∃ (vs ws : List Value) (ns' ms' : List Int), rest = vs.zip ws ∧
   IntsAre vs ns' ∧ IntsAre ws ms' ∧ ns'.length + items2.size = ms'.length + items.size ∧ R (.ok (.ret (.bool (lexLt ns' ms')))) ⟨hp, g, d, tk, os⟩) _
  case turn =>
   rintro ⟨y, x⟩ rest b s' ⟨hb', rfl, vs, ws, ns', ms', hz, hvi, hwi, hlen, hR⟩
   cases hvi with
   | nil => rw [List.zip_nil_left] at hz; cases hz
   | cons a t hvi' =>
    cases hwi with
    | nil => rw [List.zip_nil_right] at hz; cases hz
    | cons c u hwi' =>
     rw [List.zip_cons_cons] at hz
     injection hz with hyx hrest
     injection hyx with hy hx
     subst hy hx
     rw [lexLt_cons] at hR
     simp only [List.length_cons] at hlen
     obtain ⟨e, he, hiff⟩ := eqAt_int A.in1 ⟨hp, g, d, tk, os⟩ a t c u
     refine wpAny_bind (he prog w _ _ ?_)
     cases e with
     | true =>
      rw [if_pos (hiff.mp rfl)] at hR
      wp_walk
      exact ⟨rfl, rfl, _, _, _, _, hrest, hvi', hwi', by omega, hR⟩
     | false =>
      rw [if_neg (fun q => absurd (hiff.mpr q) Bool.false_ne_true)] at hR
      have hri := rcLt_int A.in1 ⟨hp, g, d, tk, os⟩ a t c u prog w
      wp_walk using hri
      exact ⟨_, rfl, by simpa using hR⟩
  case fin =>
   rintro ⟨b1, b2⟩ s' ⟨hb', rfl, vs, ws, ns', ms', hz, hvi, hwi, hlen, hR⟩
   simp only at hb'
   subst hb'
   have hv : lexLt ns' ms' = decide (items.size < items2.size) := by
    cases hvi with
    | nil =>
     cases hwi with
     | nil =>
      simp only [List.length_nil] at hlen
      rw [lexLt_nil_nil]
      exact (decide_eq_false (by omega)).symm
     | cons c u hw =>
      simp only [List.length_nil, List.length_cons] at hlen
      rw [lexLt_nil_cons]
      exact (decide_eq_true (by omega)).symm
    | cons a t hv =>
     cases hwi with
     | nil =>
      simp only [List.length_nil, List.length_cons] at hlen
      rw [lexLt_cons_nil]
      exact (decide_eq_false (by omega)).symm
     | cons c u hw =>
      rw [List.zip_cons_cons] at hz
      cases hz
   rw [hv] at hR
   wp_walk
   exact ⟨_, rfl, by simpa [Builtin.Tuple.tupleCompareSizes] using hR⟩
  case h =>
   exact ⟨rfl, rfl, items.toList, items2.toList, ns, ms, rfl, hi, hj, by omega, h⟩
end
section
variable {prog : Program} {w : World} {A : Around} {E : Value → Shared → Prop} {s : Shared}
theorem lt_tupInts {l b : Addr} {items items2 : Array Value} {ns ms : List Int} {Q : Value → Shared → Prop} (hl : IsTup s.heap l items) (hb : IsTup s.heap b items2) (hi : IntsAre items.toList ns) (hj : IntsAre items2.toList ms)
  (hu : A.units < cLine) (h : Q (.bool (lexLt ns ms)) s) : wpAny (model prog w) A (compareOp .Lt (.ref l) (.ref b)) Q E s := by
 obtain ⟨⟨cls, dd, data, sl⟩, ho, hc, n, hd⟩ := id hl
 obtain ⟨⟨cls2, dd2, data2, sl2⟩, ho2, hc2, n2, hd2⟩ := id hb
 simp only at hc hd hc2 hd2
 subst hc hd hc2 hd2
 exact richCompare_meets_room (op := .Lt) ⟨_, ho, rfl⟩ ⟨_, ho2, rfl⟩ PySem.F.slot_tuple_lt PySem.F.entry_tuple_lt (PySem.F.args_tuple_lt_2 _ _) (tuple_lt_ints l b items items2 n n2 dd dd2 sl sl2 ns ms hi hj)
  ⟨ho, ho2, show Value.bool (lexLt ns ms) ≠ Value.notImplemented ∧ Q (.bool (lexLt ns ms)) s from ⟨(fun x => nomatch x), h⟩⟩ hu
noncomputable def sIx (n d : Nat) : Option Int → Nat
 | none => d
 | some v => if v < 0 then (v + (n : Int)).toNat else min v.toNat n
theorem sIx_none (n d : Nat) : sIx n d none = d := rfl
theorem sIx_nat (n d k : Nat) : sIx n d (some (k : Int)) = min k n := by
 show (if (k : Int) < 0 then ((k : Int) + (n : Int)).toNat else min (k : Int).toNat n) = min k n
 rw [if_neg (by omega), Int.toNat_natCast]
end
end HT
namespace L2
open PySem PySem.Spec PyProof.Rows
noncomputable abbrev TO := St → Hp → (Option Int → Hp → Prop) → Prop
noncomputable def PO (X : Cx) (e : Option Expr) (t : TO) : Prop :=
 ∀ (pins : List (Addr × Obj)) (s : Shared) (σ : St) (H : Hp) (Q : Option Int → Hp → Prop), Inv X pins σ H s → t σ H Q →
  wpAny (model X.prog X.w) X.A (evalPart e X.env) (fun u s' => ∃ o H', Inv X pins σ H' s' ∧ IsPart u o ∧ Q o H') X.xe s
noncomputable def tNoPart : TO := fun _ H Q => Q none H
noncomputable def tPart (t : TE) : TO := fun σ H Q => t σ H fun x H1 => ∃ i, x = .int i ∧ Q (some i) H1
theorem intsAre_of {ns : List Int} : ∀ {us : List Value}, Vals (ns.map V.int) us → IntsAre us ns := by
 induction ns with
 | nil => intro us r; rw [List.map_nil] at r; cases r; exact .nil
 | cons n ns ih =>
  intro us r
  rw [List.map_cons] at r
  cases r with
  | cons r1 r2 =>
   obtain ⟨t, e⟩ := r1
   subst e
   exact .cons n t (ih r2)
section
variable {X : Cx} {e : Expr} {te : TE} {lo hi : Option Expr} {tl th : TO} {pos p2 : Pos}
theorem po_none : PO X none tNoPart := by
 intro pins s σ H Q I h
 rw [evalPart_none]
 exact wpAny_pure ⟨none, H, I, .none, h⟩
theorem po_some (h : PE X e te) : PO X (some e) (tPart te) := by
 intro pins s σ H Q I hw
 rw [evalPart_some]
 refine thn (h pins s σ H _ I hw) fun u s1 ⟨x, H1, I1, r1, q1⟩ => ?_
 obtain ⟨i, rfl, q⟩ := q1
 obtain ⟨t, rfl⟩ := r1
 exact ⟨some i, H1, I1, .int i t, q⟩
noncomputable def SlR (X : Cx) (r : V → Option Int → Option Int → Hp → VK → Prop) : Prop :=
 ∀ (pins : List (Addr × Obj)) (s : Shared) (σ : St) (H : Hp) (x : V) (v vl vu : Value) (lo hi : Option Int) (sl : Addr) (Q : VK), Inv X pins σ H s → RelV x v → s.heap.IsSliceOf sl vl vu .none → IsPart vl lo → IsPart vu hi → r x lo hi H Q →
  ∃ T id, typeLookup (.type T) "__getitem__" = pure (some (.builtin id)) ∧ s.TypeIs v T ∧ wpAny (model X.prog X.w) X.A (getItem v (.ref sl)) (EP X pins σ Q) X.xe s
noncomputable def tSl (r : V → Option Int → Option Int → Hp → VK → Prop) (te : TE) (tl th : TO) : TE := fun σ H Q => te σ H fun x H1 => tl σ H1 fun l H2 => th σ H2 fun u H3 => r x l u H3 Q
theorem pe_slice {r : V → Option Int → Option Int → Hp → VK → Prop} (hr : SlR X r) (he : PE X e te) (hl : PO X lo tl) (hu : PO X hi th) : PE X (.Subscript e (.Slice lo hi none p2) pos) (tSl r te tl th) := by
 intro pins s σ H Q I h
 refine Subscript_ (thn (he pins s σ H _ I h) fun v s1 ⟨x, H1, I1, r1, q1⟩ => ?_)
 refine wpAny_Slice (thn (hl pins s1 σ H1 _ I1 q1) fun vl s2 ⟨l, H2, I2, pl, q2⟩ => thn (hu pins s2 σ H2 _ I2 q2) fun vu s3 ⟨u, H3, I3, pu, q3⟩ => ?_)
 rw [evalPart_none]
 refine wpAny_pure ?_
 have I4 : Inv X pins σ H3 { s3 with heap := s3.heap.push { cls := .type "slice", data := .fields #[vl, vu, .none] } } := I3.kept (t' := s3.toks) fun b ob q => Heap.get?_push_of_some _ q
 obtain ⟨T, id, hT, ht, hg⟩ := hr pins { s3 with heap := s3.heap.push { cls := .type "slice", data := .fields #[vl, vu, .none] } } σ H3 x v vl vu l u s3.heap.objs.size Q I4 r1 (Heap.IsSliceOf.new ..) pl pu q3
 show wpAny (model X.prog X.w) X.A (subscriptTail e (.Slice lo hi none p2) v (.ref s3.heap.objs.size)) (EP X pins σ Q) X.xe { s3 with heap := s3.heap.push { cls := .type "slice", data := .fields #[vl, vu, .none] } }
 exact tail_any (ops := [.ref s3.heap.objs.size, v]) ht hT hg (by with_unfolding_all rfl)
noncomputable def cutV (xs : List V) (lo hi : Option Int) : List V := (xs.drop (HT.sIx xs.length 0 lo)).take (HT.sIx xs.length xs.length hi - HT.sIx xs.length 0 lo)
theorem cutV_length (xs : List V) (lo hi : Option Int) : (cutV xs lo hi).length ≤ xs.length := by
 unfold cutV
 rw [List.length_take, List.length_drop]
 omega
end
end L2
namespace L2
open PySem PySem.Spec PyProof.Rows
noncomputable def ixN (n : Nat) (i : Int) : Option Nat := if 0 ≤ i then (if i < n then some i.toNat else none) else if -(n : Int) ≤ i then some (i + n).toNat else none
noncomputable def atI {α : Type} (xs : List α) (i : Int) : Option α := (ixN xs.length i).bind fun j => xs[j]?
theorem ixN_seq {n : Nat} {i : Int} {j : Nat} (h : ixN n i = some j) : seqIndex? i n = some j ∧ j < n ∧ -(n : Int) ≤ i ∧ i < n := by
 unfold ixN at h
 by_cases h0 : 0 ≤ i
 ·rw [if_pos h0] at h
  by_cases h1 : i < n
  ·rw [if_pos h1] at h
   have e : i.toNat = j := Option.some.inj h
   exact ⟨by rw [seqIndex_of h0 h1, e], by omega, by omega, h1⟩
  ·rw [if_neg h1] at h; cases h
 ·rw [if_neg h0] at h
  by_cases h1 : -(n : Int) ≤ i
  ·rw [if_pos h1] at h
   have e : (i + n).toNat = j := Option.some.inj h
   exact ⟨by rw [seqIndex_neg (by omega) h1, e], by omega, h1, by omega⟩
  ·rw [if_neg h1] at h; cases h
theorem atI_get {α : Type} {xs : List α} {i : Int} {v : α} (h : atI xs i = some v) : ∃ j, seqIndex? i xs.length = some j ∧ xs[j]? = some v ∧ j < xs.length ∧ -(xs.length : Int) ≤ i ∧ i < xs.length := by
 unfold atI at h
 cases e : ixN xs.length i with
 | none => rw [e] at h; cases h
 | some j =>
  rw [e] at h
  obtain ⟨h1, h2, h3, h4⟩ := ixN_seq e
  exact ⟨j, h1, h, h2, h3, h4⟩
theorem atI_nat {α : Type} {xs : List α} {j : Nat} {v : α} (h : xs[j]? = some v) : atI xs (j : Int) = some v := by
 have hj : j < xs.length := (List.getElem?_eq_some_iff.mp h).1
 have e : ixN xs.length (j : Int) = some j := by
  unfold ixN
  rw [if_pos (by omega), if_pos (by omega)]; simp
 unfold atI; rw [e]; exact h
noncomputable def PlainIx (b : Expr) : Prop := ∀ o i, subscripted b false o i = operate [o, i] (getItem o i)
noncomputable def IxR (X : Cx) (r : R2) : Prop :=
 ∀ (value slice : Expr) (pins : List (Addr × Obj)) (s : Shared) (σ : St) (H : Hp) (x y : V) (v u : Value) (Q : VK), Inv X pins σ H s → RelV x v → RelV y u → r x y H Q →
  subscripted slice false v u = operate [v, u] (getItem v u) → wpAny (model X.prog X.w) X.A (subscriptTail value slice v u) (EP X pins σ Q) X.xe s
noncomputable def MtR (X : Cx) (id : String) (r : V → List V → Hp → VK → Prop) : Prop :=
 ∀ (pins : List (Addr × Obj)) (s : Shared) (σ : St) (H : Hp) (x : V) (xs : List V) (v : Value) (us : List Value) (Q : VK), Inv X pins σ H s → RelV x v → Vals xs us → r x xs H Q →
  wpAny (model X.prog X.w) X.A (call (.builtin id) (v :: us)) (EP X pins σ Q) X.xe s
section
variable {X : Cx} {a b : Expr} {ta tb : TE} {pos : Pos}
theorem pe_ix {r : R2} (hr : IxR X r) (ha : PE X a ta) (hb : PE X b tb) (hs : PlainIx b) : PE X (.Subscript a b pos) (tOp r ta tb) := by
 intro pins s σ H Q I h
 exact Subscript_ (binT ha hb I h fun v u s2 x y H2 I2 rx ry q => hr a b pins s2 σ H2 x y v u Q I2 rx ry q (hs _ _))
noncomputable def rIxL (K : PySem.W.Frag) : R2 := fun x y H Q => ∃ p xs i v, x = .ref p ∧ y = .int i ∧ SqL K H p xs ∧ atI xs i = some v ∧ Q v H
noncomputable def rIxT (K : PySem.W.Frag) : R2 := fun x y H Q => ∃ p xs i v, x = .ref p ∧ y = .int i ∧ SqT K H p xs ∧ atI xs i = some v ∧ Q v H
theorem ix_list : IxR X (rIxL X.K) := by
 intro value slice pins s σ H x y v u Q I rx ry h hs
 obtain ⟨p, xs, i, z, rfl, rfl, hq, he, q⟩ := h
 cases rx
 obtain ⟨t, rfl⟩ := ry
 obtain ⟨its, r, pl, hz⟩ := I.list hq
 obtain ⟨j, h1, h2, h3, h4, h5⟩ := atI_get he
 obtain ⟨w, ew, rw'⟩ := r.get h2
 have hl := r.length
 have hn := line63
 have fin : EP X pins σ Q w s := ⟨z, H, I, rw', q⟩
 by_cases h0 : 0 ≤ i
 ·have hj : i.toNat = j := by
   rw [seqIndex_of h0 h5] at h1
   exact Option.some.inj h1
  exact item_listR pl.isList h0 (by omega) (by rw [hj]; simpa using ew) fin hs
 ·have hj : (i + (its.toArray.size : Int)).toNat = j := by
   rw [seqIndex_neg (by omega) h4] at h1
   rw [List.size_toArray, ← hl]
   exact Option.some.inj h1
  exact subscriptTail_builtinR (x := w) pl.isList.typeIs slot_list_getitem.lookup
   (wpAny_getItem_list_neg (Q := fun r s' => r = w ∧ EP X pins σ Q r s') pl.isList (by omega) (by rw [List.size_toArray] <;> omega) (by omega) (by rw [hj]; simpa using ew) ⟨rfl, fin⟩) hs
theorem ix_tup : IxR X (rIxT X.K) := by
 intro value slice pins s σ H x y v u Q I rx ry h hs
 obtain ⟨p, xs, i, z, rfl, rfl, hq, he, q⟩ := h
 cases rx
 obtain ⟨t, rfl⟩ := ry
 obtain ⟨its, r, pl, hz⟩ := I.tuple hq
 obtain ⟨j, h1, h2, h3, h4, h5⟩ := atI_get he
 obtain ⟨w, ew, rw'⟩ := r.get h2
 have hl := r.length
 have hn := line63
 have fin : EP X pins σ Q w s := ⟨z, H, I, rw', q⟩
 exact subscriptTail_builtinR (x := w) pl.typeIs slot_tuple_getitem.lookup
  (getItem_tuple (j := j) (Q := fun r s' => r = w ∧ EP X pins σ Q r s') pl (by omega) (by omega) (by rw [List.size_toArray, ← hl]; exact h1) (by simpa using ew) ⟨rfl, fin⟩) hs
theorem Inv.lst {pins : List (Addr × Obj)} {σ : St} {H : Hp} {s : Shared} {p : Addr} {xs : List V} (I : Inv X pins σ H s) (h : H p = some (.lst xs)) :
  ∃ (its : List Value) (n : Nat), Vals xs its ∧ s.heap.get? p = some { cls := .type "list", data := .seq its.toArray n } ∧ xs.length ≤ sizeLine := by
 obtain ⟨z, its, n, r, e⟩ := I.hok p _ h
 exact ⟨its, n, r, e, z⟩
theorem slice_bounds (lo hi : Option Int) (n : Nat) : (sliceBounds lo hi none n).1 = ((HT.sIx n 0 lo : Nat) : Int) ∧ (sliceBounds lo hi none n).2.1 = ((HT.sIx n n hi : Nat) : Int) ∧ (sliceBounds lo hi none n).2.2 = 1 := by
 refine ⟨?_, ?_, rfl⟩
 ·cases lo with
  | none => simp [sliceBounds, HT.sIx]
  | some i =>
   simp only [sliceBounds, HT.sIx, Option.getD_none, show (1 : Int) > 0 by decide, if_true]
   by_cases h : i < 0
   ·simp only [h, if_true] <;> omega
   ·simp only [h, if_false] <;> omega
 ·cases hi with
  | none => simp [sliceBounds, HT.sIx]
  | some i =>
   simp only [sliceBounds, HT.sIx, Option.getD_none, show (1 : Int) > 0 by decide, if_true]
   by_cases h : i < 0
   ·simp only [h, if_true] <;> omega
   ·simp only [h, if_false] <;> omega
theorem slicePick_cut (its : List Value) (lo hi : Option Int) : slicePick its.toArray lo hi none = ((its.drop (HT.sIx its.length 0 lo)).take (HT.sIx its.length its.length hi - HT.sIx its.length 0 lo)).toArray := by
 obtain ⟨h1, h2, h3⟩ := slice_bounds lo hi its.toArray.size
 unfold slicePick
 rw [h1, h2, h3]
 simp only [sliceRange_one, pick_run, List.size_toArray] <;> rfl
noncomputable def rSlL (K : PySem.W.Frag) : V → Option Int → Option Int → Hp → VK → Prop := fun x lo hi H Q => ∃ a xs, x = .ref a ∧ SqL K H a xs ∧ ∀ p, H p = none → Q (.ref p) (upd H p (.lst (cutV xs lo hi)))
theorem sl_list : SlR X (rSlL X.K) := by
 intro pins s σ H x v vl vu lo hi sl Q I rx hs pl pu h
 obtain ⟨a, xs, rfl, hx, q⟩ := h
 cases rx
 obtain ⟨its, r, ht, hz⟩ := I.list hx
 have hlen := r.length
 refine ⟨"list", _, slot_list_getitem.lookup, ht.isList.typeIs, ?_⟩
 refine wpAny_getItem_list_slice ht.isList hs pl pu .none (by simp) ?_ (by rw [List.size_toArray] <;> omega)
 rw [slicePick_cut, ← hlen]
 refine ⟨.ref s.heap.objs.size, _, I.laid (t' := s.toks) (o := .lst (cutV xs lo hi)) (fun b ob q => Heap.get?_push_of_some _ q) (Nat.le_refl _) ?_, rfl, q _ (I.hok.fresh (Nat.le_refl _))⟩
 exact ⟨Nat.le_trans (cutV_length xs lo hi) hz, _, 0, (r.drop (HT.sIx xs.length 0 lo)).take (HT.sIx xs.length xs.length hi - HT.sIx xs.length 0 lo), Heap.get?_push_size _ rfl⟩
theorem call_len_seq : CallR X (.builtin "len") (fun xs H Q => ∃ p ys, xs = [.ref p] ∧ (SqL X.K H p ys ∨ SqT X.K H p ys) ∧ Q (.int ys.length) H) := by
 intro pins s σ H xs us Q I r h
 obtain ⟨p, ys, rfl, hq, q⟩ := h
 obtain ⟨u, rfl, rx⟩ := vals1 r
 cases rx
 have hn := line63
 rcases hq with hq | hq
 ·obtain ⟨its, r', pl, hz⟩ := I.list hq
  have hlen := r'.length
  exact Calls.call_len_list pl.isList (by simp only [List.size_toArray] <;> omega) ⟨.int ys.length, H, I.tok _, ⟨s.toks + 1, by rw [List.size_toArray, hlen]⟩, q⟩
 ·obtain ⟨its, r', pl, hz⟩ := I.tuple hq
  have hlen := r'.length
  exact len_tuple pl (by simp only [List.size_toArray] <;> omega) ⟨.int ys.length, H, I.tok _, ⟨s.toks + 1, by rw [List.size_toArray, hlen]⟩, q⟩
theorem call_list_of : CallR X (.type "list") (fun xs H Q => ∃ p ys, xs = [.ref p] ∧ (SqL X.K H p ys ∨ SqT X.K H p ys) ∧ ∀ l, H l = none → Q (.ref l) (upd H l (.lst ys))) := by
 intro pins s σ H xs us Q I r h
 obtain ⟨p, ys, rfl, hq, q⟩ := h
 obtain ⟨u, rfl, rx⟩ := vals1 r
 cases rx
 have fin : ∀ (its : List Value), Vals ys its → ys.length ≤ sizeLine → ∀ (h' : Heap) (c' : Nat), (∀ b o', s.heap.get? b = some o' → h'.get? b = some o') →
   h'.get? s.heap.objs.size = some { cls := .type "list", dict := none, data := .seq its.toArray c', slots := #[] } → EP X pins σ Q (.ref s.heap.objs.size) { s with heap := h' } := fun its r' hz h' c' kp e =>
  ⟨.ref s.heap.objs.size, _, I.laid (t' := s.toks) kp (Nat.le_refl _) (show ObjOk X.prog X.w _ h' _ (.lst ys) from ⟨hz, its, c', r', e⟩), rfl, q _ (I.hok.fresh (Nat.le_refl _))⟩
 rcases hq with hq | hq
 ·obtain ⟨its, r', pl, hz⟩ := I.list hq
  have hlen := r'.length
  obtain ⟨o, ho, hc, n, hd⟩ := pl.isList
  exact call_list_seq p (.inl rfl) ho hc hd (fun h' c' kp e => fin its r' hz h' c' kp e) (by simp only [List.size_toArray] <;> omega)
 ·obtain ⟨its, r', pl, hz⟩ := I.tuple hq
  have hlen := r'.length
  obtain ⟨o, ho, hc, n, hd⟩ := pl
  exact call_list_seq p (.inr rfl) ho hc hd (fun h' c' kp e => fin its r' hz h' c' kp e) (by simp only [List.size_toArray] <;> omega)
noncomputable def tyV (K : PySem.W.Frag) (T : String) (x : V) (H : Hp) : Prop := match x with
 | .str _ => T = "str"
 | .int _ => T = "int"
 | .ref p => (T = "list" ∧ ∃ xs, SqL K H p xs) ∨ (T = "tuple" ∧ ∃ o, K.lookup p = some o ∧ o.cls = .type "tuple" ∧ o.dict = none) ∨
   (T = "dict" ∧ ((∃ kvs, H p = some (.dK kvs)) ∨ ∃ kvs, H p = some (.dT kvs))) ∨ (T = "set" ∧ ∃ S n, H p = some (.set S n))
 | _ => False
theorem tyV_is {pins : List (Addr × Obj)} {σ : St} {H : Hp} {s : Shared} {T : String} {x : V} {v : Value} (I : Inv X pins σ H s) (r : RelV x v) (ty : tyV X.K T x H) :
  s.TypeIs v T ∧ ∀ a, v = .ref a → ∃ ob, s.heap.get? a = some ob ∧ ob.dict = none := by
 cases x with
 | str z =>
  obtain ⟨t, rfl⟩ := r
  cases (show T = "str" from ty)
  exact ⟨typeIs_str s z t, fun _ e => nomatch e⟩
 | int i =>
  obtain ⟨t, rfl⟩ := r
  cases (show T = "int" from ty)
  exact ⟨typeIs_int s i t, fun _ e => nomatch e⟩
 | ref p =>
  cases r
  rcases ty with ⟨rfl, xs, hq⟩ | ⟨rfl, o, hk, hc, hd⟩ | ⟨rfl, hk⟩ | ⟨rfl, S, n, hk⟩
  ·obtain ⟨its, _, pl, _⟩ := I.list hq
   refine ⟨pl.isList.typeIs, fun a e => ?_⟩
   cases e
   obtain ⟨o, n, e, c, hd, _⟩ := pl
   exact ⟨o, e, hd⟩
  ·refine ⟨⟨o, I.kIn p o hk, hc⟩, fun a e => ?_⟩
   cases e
   exact ⟨o, I.kIn _ o hk, hd⟩
  ·have z : ∃ o, s.heap.get? p = some o ∧ o.ExactDict := by
    rcases hk with ⟨kvs, hk⟩ | ⟨kvs, hk⟩
    ·obtain ⟨_, _, _, _, o, _, _, e, ex, _⟩ := I.hok p _ hk
     exact ⟨o, e, ex⟩
    ·obtain ⟨_, _, _, _, o, _, _, e, ex, _⟩ := I.hok p _ hk
     exact ⟨o, e, ex⟩
   obtain ⟨o, e, ex⟩ := z
   refine ⟨⟨o, e, ex.1⟩, fun a e2 => ?_⟩
   cases e2
   exact ⟨o, e, ex.2.1⟩
  ·obtain ⟨o, _, _, _, e, ex, _⟩ := I.hok p _ hk
   refine ⟨⟨o, e, ex.1⟩, fun a e2 => ?_⟩
   cases e2
   exact ⟨o, e, ex.2.1⟩
 | _ => exact False.elim ty
noncomputable def tBM0 (K : PySem.W.Frag) (T : String) (r : V → List V → Hp → VK → Prop) (to : TE) : TE := fun σ H Q => to σ H fun x H1 => tyV K T x H1 ∧ r x [] H1 Q
noncomputable def tBM (K : PySem.W.Frag) (T : String) (r : V → List V → Hp → VK → Prop) (to : TE) (t : TA) : TE := fun σ H Q => to σ H fun x H1 => tyV K T x H1 ∧ t σ H1 fun xs H2 => r x xs H2 Q
variable {o e : Expr} {es : List Expr} {to : TE} {t : TA} {name : Str} {apos cpos : Pos} {T id : String} {r : V → List V → Hp → VK → Prop}
theorem pe_bm0 (pa : PlainAttrs T) (slot : Slot T name id) (hty : typeOf (.builtin id) = pure (.type "method_descriptor")) (hm : MtR X id r) (ho : PE X o to)
  (hbase : attributeBase o name X.env (eval o X.env) = eval o X.env := by rfl) (hline : (apos.endLine == cpos.line) = true := by rfl) : PE X (.Call (.Attribute o name apos) [] [] cpos) (tBM0 X.K T r to) := by
 intro pins s σ H Q I h
 refine wpAny_Call_method0_late hbase hline (thn (ho pins s σ H _ I h) fun v s1 ⟨x, H1, I1, r1, ty, q1⟩ => ?_)
 obtain ⟨h1, h2⟩ := tyV_is I1 r1 ty
 exact ⟨T, id, pa, slot, hty, h1, h2, Calls.callWith_builtin rfl (PySem.evalArgs_none (hm pins s1 σ H1 x [] v [] Q I1 r1 .nil q1))⟩
theorem pe_bm (pa : PlainAttrs T) (slot : Slot T name id) (hty : typeOf (.builtin id) = pure (.type "method_descriptor")) (hm : MtR X id r) (ho : PE X o to) (ha : PA X (e :: es) t)
  (hbase : attributeBase o name X.env (eval o X.env) = eval o X.env := by rfl)
  (hfew : ((backTo cpos (starEach (e :: es) X.env)).all (fun x => !x.1) && (backToKw cpos (keywordEach [] X.env)).all (fun x => x.1.isSome)
   && decide ((e :: es).length + ([] : List Keyword).length + (if ([] : List Keyword).isEmpty then 0 else 1) < 30)) = true := by rfl)
  (hline : (apos.endLine == cpos.line) = true := by rfl) (hs : starEach (e :: es) X.env = (false, eval e X.env) :: starEach es X.env := by rfl) (hplain : (backTo cpos (starEach es X.env)).any (·.1) = false := by rfl) :
  PE X (.Call (.Attribute o name apos) (e :: es) [] cpos) (tBM X.K T r to t) := by
 intro pins s σ H Q I h
 refine wpAny_Call_method_late hbase hfew hline rfl (thn (ho pins s σ H _ I h) fun v s1 ⟨x, H1, I1, r1, ty, q1⟩ => ?_)
 obtain ⟨h1, h2⟩ := tyV_is I1 r1 ty
 refine ⟨T, id, pa, slot, hty, h1, h2, ?_⟩
 have hA := ha cpos pins s1 σ H1 _ I1 q1
 rw [hs] at hA ⊢
 refine Calls.callWith_builtin (by show (false || (backTo cpos (starEach es X.env)).any (·.1)) = false; rw [hplain] <;> rfl) (Calls.evalArgs_plain ?_)
 exact thn hA fun us s2 ⟨vs, H2, I2, r2, q2⟩ => hm pins s2 σ H2 x vs v us Q I2 r1 r2 q2
end
end L2
namespace L2
open PySem PySem.Spec PyProof.Rows
noncomputable def MtM (X : Cx) (id : String) (r : V → List V → Hp → VK → Prop) : Prop :=
 ∀ (pins : List (Addr × Obj)) (s : Shared) (σ : St) (H : Hp) (x : V) (xs : List V) (v : Value) (us : List Value) (Q : VK), Inv X pins σ H s → RelV x v → Vals xs us → r x xs H Q →
  wpAny (model X.prog X.w) X.A (call (.builtin id) (v :: us)) (EP X pins σ Q) X.xe s
theorem Vals.one : ∀ {x : V} {us : List Value}, Vals [x] us → ∃ u, us = [u] ∧ RelV x u
 | _, _, .cons r .nil => ⟨_, rfl, r⟩
theorem Vals.two : ∀ {x y : V} {us : List Value}, Vals [x, y] us → ∃ u v, us = [u, v] ∧ RelV x u ∧ RelV y v
 | _, _, _, .cons r (.cons q .nil) => ⟨_, _, rfl, r, q⟩
theorem Vals.zero : ∀ {us : List Value}, Vals [] us → us = []
 | _, .nil => rfl
theorem Vals.dropLast {xs : List V} {us : List Value} (h : Vals xs us) : Vals xs.dropLast us.dropLast := by
 induction h with
 | nil => exact .nil
 | cons r t ih =>
  cases t with
  | nil => exact .nil
  | cons q t' => exact .cons r ih
theorem Vals.eraseIdx : ∀ {xs : List V} {us : List Value} (i : Nat), Vals xs us → Vals (xs.eraseIdx i) (us.eraseIdx i)
 | _, _, _, .nil => .nil
 | _, _, 0, .cons _ t => t
 | _, _, i + 1, .cons r t => .cons r (Vals.eraseIdx i t)
theorem Vals.reverse {xs : List V} {us : List Value} (h : Vals xs us) : Vals xs.reverse us.reverse := by
 induction h with
 | nil => exact .nil
 | cons r t ih => rw [List.reverse_cons, List.reverse_cons]; exact Vals.append ih (.cons r .nil)
section
variable {X : Cx} {pins : List (Addr × Obj)} {σ : St} {H : Hp} {s : Shared} {l b : Addr} {xs ys zs : List V}
theorem Inv.lset {its its' : List Value} {n : Nat} {f : Array Value → Array Value} {t' : Nat} (I : Inv X pins σ H s) (hH : H l = some (.lst xs))
  (e : s.heap.get? l = some { cls := .type "list", data := .seq its.toArray n }) (hf : f its.toArray = its'.toArray) (hv : Vals ys its') (hz : ys.length ≤ sizeLine) :
  Inv X pins σ (upd H l (.lst ys)) { s with heap := s.heap.update l (Obj.mapSeq f), toks := t' } := by
 have q := PySem.IsL.update e f
 rw [hf] at q
 refine I.write (x := l) (e := l) (by rw [hH]; exact trivial) (.inl rfl) (fun b' u hb hu => (Heap.get?_update_other s.heap (Obj.mapSeq f) (Ne.symm hb)).trans hu) ⟨_, q⟩ ?_
 exact ⟨hz, its', _, hv, q⟩
theorem Inv.lnew {its : List Value} {t' : Nat} (I : Inv X pins σ H s) (hv : Vals ys its) (hz : ys.length ≤ sizeLine) :
  Inv X pins σ (upd H s.heap.objs.size (.lst ys)) { s with heap := s.heap.push { cls := .type "list", data := .seq its.toArray }, toks := t' } :=
 I.laid (fun _ _ q => Heap.get?_push_of_some _ q) (Nat.le_refl _) ⟨hz, its, 0, hv, Heap.get?_push_size _ rfl⟩
theorem Inv.fresh (I : Inv X pins σ H s) : H s.heap.objs.size = none := I.hok.fresh (Nat.le_refl _)
theorem Inv.lstM (I : Inv X pins σ H s) (hH : H l = some (.lst xs)) : xs.length ≤ sizeLine ∧ ∃ (its : List Value) (n : Nat), Vals xs its ∧ xs.length = its.length ∧ s.heap.get? l = some { cls := .type "list", data := .seq its.toArray n } := by
 obtain ⟨z, its, n, r, e⟩ := I.hok l _ hH
 exact ⟨z, its, n, r, r.length, e⟩
end
section
variable {X : Cx}
noncomputable def rAppend : V → List V → Hp → VK → Prop := fun x vs H Q => ∃ l xs y, x = .ref l ∧ vs = [y] ∧ H l = some (.lst xs) ∧ xs.length < sizeLine ∧ Q .non (upd H l (.lst (xs ++ [y])))
theorem mt_append : MtM X "list.append" rAppend := by
 intro pins s σ H x vs v us Q I rx rv h
 obtain ⟨l, xs, y, rfl, rfl, hH, hz, q⟩ := h
 cases rx
 obtain ⟨u, rfl, ru⟩ := rv.one
 obtain ⟨z, its, n, r, hl, e⟩ := I.lstM hH
 refine call_meets F.slot_list_append ⟨_, e, rfl⟩ F.entry_list_append (F.args_list_append_2 _ _) (PySem.list_append l its.toArray n u (by rw [List.size_toArray]; omega)) ⟨e, ?_⟩
 refine ⟨.non, _, I.lset (its' := its ++ [u]) hH e (by simp) (r.append (.cons ru .nil)) ?_, rfl, q⟩
 rw [List.length_append, List.length_singleton]
 omega
noncomputable def rClear : V → List V → Hp → VK → Prop := fun x vs H Q => ∃ l xs, x = .ref l ∧ vs = [] ∧ H l = some (.lst xs) ∧ Q .non (upd H l (.lst []))
theorem mt_clear : MtM X "list.clear" rClear := by
 intro pins s σ H x vs v us Q I rx rv h
 obtain ⟨l, xs, rfl, rfl, hH, q⟩ := h
 cases rx
 have hus := rv.zero
 subst hus
 obtain ⟨z, its, n, r, hl, e⟩ := I.lstM hH
 refine call_meets F.slot_list_clear ⟨_, e, rfl⟩ F.entry_list_clear (F.args_list_clear_1 _) (AutoSeq1.list_clear_list_0 l its.toArray n (by rw [List.size_toArray]; omega)) ⟨e, ?_⟩
 exact ⟨.non, _, I.lset (its' := []) (ys := []) hH e rfl .nil (Nat.zero_le _), rfl, q⟩
noncomputable def rCat : R2 := fun x y H Q => ∃ l b xs zs, x = .ref l ∧ y = .ref b ∧ H l = some (.lst xs) ∧ H b = some (.lst zs) ∧ xs.length + zs.length ≤ sizeLine ∧ ∀ p, H p = none → Q (.ref p) (upd H p (.lst (xs ++ zs)))
theorem op_cat : OpR X (binaryOp .Add) rCat := by
 intro pins s σ H x y v u Q I rx ry h
 obtain ⟨l, b, xs, zs, rfl, rfl, hH, hB, hz, q⟩ := h
 cases rx
 cases ry
 obtain ⟨z, its, n, r, hl, e⟩ := I.lstM hH
 obtain ⟨z2, its2, n2, r2, hl2, e2⟩ := I.lstM hB
 refine PySem.P.add_list e e2 ?_ (by rw [List.size_toArray, List.size_toArray]; omega)
 have ea : its.toArray ++ its2.toArray = (its ++ its2).toArray := by simp
 rw [ea]
 exact ⟨.ref _, _, I.lnew (t' := s.toks) (r.append r2) (by rw [List.length_append]; omega), rfl, q _ I.fresh⟩
end
end L2
namespace Att
open PySem PySem.W PySem.Calls PyProof.Rows
theorem ints_of_wellAll {P : Params} {h : Heap} : ∀ (ns : List Int) (vs : List Value), WellAll P h vs (ns.map WData.int) → IntsAre vs ns := by
 intro ns
 induction ns with
 | nil =>
  intro vs w
  rw [List.map_nil] at w
  cases w
  exact .nil
 | cons n ns ih =>
  intro vs w
  rw [List.map_cons] at w
  cases w with
  | cons a b =>
   cases a
   exact .cons _ _ (ih _ b)
theorem script_of {l : OpenLaw} {n : Nat} (hn : l.most = some n) {P : Params} {h : Heap} {args : List WData} {vals : List Value}
  (hpre : l.row.toRowW.claim.pre args = true) (hwl : WellAll P h vals args) :
  ∃ a vs ns, vals = [Value.ref a] ∧ args = [WData.list (ns.map WData.int)] ∧ h.get? a = some { cls := .type "list", data := .seq vs.toArray } ∧ IntsAre vs ns ∧ ns.length ≤ n := by
 have hsh : WShape.hasAll [] args [.list .int] = true := (pre_splitW hpre).1
 have hc : l.pre.holds [] { args := args } = true := (pre_splitW hpre).2
 obtain ⟨d, r, rfl, h1, h2⟩ := hasAllW_cons hsh
 obtain rfl := hasAllW_nil h2
 obtain ⟨xs, rfl, h3⟩ := hasW_list h1
 obtain ⟨ns, rfl⟩ := items_int h3
 have hlen : ns.length ≤ n := by
  unfold OpenLaw.pre at hc
  have h4 : (WTm.not (.lt (.lit (.int (n : Int))) (.len (.arg 0)))).holds [] { args := [.list (ns.map .int)] } = true := by
   have h4 := (holds_andW hc).1
   rw [hn] at h4
   exact h4
  have h5 := condW_of h4 (w_not (w_lt w_lit (w_len_list (w_arg rfl))))
  rw [List.length_map] at h5
  refine Nat.le_of_not_lt fun q => ?_
  have q' : (n : Int) < ((ns.length : Nat) : Int) := by omega
  first
   | (rw [decide_eq_true q'] at h5; exact absurd h5 (by decide))
   | (simp at h5; omega)
 cases hwl with
 | cons w1 w2 =>
  cases w2
  cases w1 with
  | list ho hall => exact ⟨_, _, ns, rfl, rfl, ho, ints_of_wellAll ns _ hall, hlen⟩
theorem post_true (l : OpenLaw) (args : List WData) : l.row.toRowW.claim.post args (.bool true) args = true :=
 postW_of (r := l.row.toRowW) (X := (true == true))
  (show WShape.has [] (.bool true) .bool = true by first | rfl | decide | simp [WShape.has, WShape.arms, WShape.armsAll])
  (show (WTm.eq .res (.lit (.bool true))).value [] { args := args, res := some (.bool true), after := args } = some (.bool (true == true)) from w_eq_bool (w_res rfl) w_lit) rfl
theorem attach_call {l : OpenLaw} {n : Nat} {q : Program} {loose : List Str} {XP : (Str → Option Value) → Heap → Prop} {YP : World → Heap → Prop} {d : DefRec}
  (hn : l.most = some n) (hdf : d.params.defaults = [])
  (call : ∀ (w : World) (s₀ s₁ : Shared) (mg mb : Str → Option Value) (fa : Addr) (o : Obj) (pm cd doc : Value) (a : Addr) (vs : List Value) (ns : List Int),
   Ground q loose [] XP w s₀ mg mb s₁.heap → YP w s₁.heap →
   s₁.heap.get? fa = some o → o.data = .func (docDef d.name d.params d.body d.scope pm cd doc) → s₁.heap.CodeRec cd d.name → mg d.name = some (.ref fa) →
   s₁.heap.get? a = some { cls := .type "list", data := .seq vs.toArray } → IntsAre vs ns → ns.length ≤ n → s₁.gens = #[] →
   codeAny (model l.prog w) callerA (.call (.ref fa) ⟨[.ref a], []⟩) (fun r s' => r = .ok (.ret (.bool true)) ∧ OldK s₁.heap s'.heap ∧ s'.os = s₁.os ∧ AllBare s'.gens) s₁) :
  WalkO q loose XP YP l.row.toRowW d [] (fun f vs => PySem.call f vs) := by
 intro w s₀ s₁ mg mb G Y fa o pm cd doc dV kV ho hd hcd hD hmg hg args vals as hpre hlay hrd hwl hlo
 obtain rfl : dV = .none := Dflts.none hD hdf
 obtain rfl : kV = .none := Dflts.noKw hD
 obtain ⟨a, vs, ns, rfl, rfl, hobj, hints, hlen⟩ := script_of hn hpre hwl
 refine enter_call (codeAny_mono (call w s₀ s₁ mg mb fa o pm cd doc a vs ns G Y ho (fd_plain hd) hcd hmg hobj hints hlen hg) fun r s' hq => ?_)
 obtain ⟨rfl, h2, h3, h4⟩ := hq
 exact ⟨.inl ⟨.bool true, .bool true, [], rfl, fun _ => rfl, .bool true, post_true l _, fun _ => ⟨List.Pairwise.nil, fun _ hm => (nomatch hm)⟩⟩, h2, h3, h4⟩
end Att
namespace L2
open PySem PySem.Spec PyProof.Rows
theorem vals_ints : ∀ {vs : List Value} {ns : List Int}, IntsAre vs ns → Vals (ns.map V.int) vs
 | _, _, .nil => .nil
 | _, _, .cons n t h => .cons ⟨t, rfl⟩ (vals_ints h)
end L2
namespace L2
open PySem PySem.Spec PyProof.Rows
noncomputable def defArgs (s : Stmt) : Arguments := match s with
 | .FunctionDef _ a _ _ _ _ _ _ _ _ => a
 | _ => { posonlyargs := [], args := [], vararg := none, kwonlyargs := [], kw_defaults := [], kwarg := none, defaults := [] }
noncomputable def defBody (s : Stmt) : List Stmt := match s with
 | .FunctionDef _ _ b _ _ _ _ _ _ _ => b
 | _ => []
noncomputable def defScope (s : Stmt) : Scope := match s with
 | .FunctionDef _ _ _ _ _ _ sc _ _ _ => sc
 | _ => { kind := .function, names := [], isGenerator := false, isCoroutine := false }
noncomputable abbrev CX0 : CXT := fun _ _ _ _ _ _ => False
noncomputable abbrev E0 : XK := fun _ _ _ => False
structure Fun (K : PySem.W.Frag) (x qual : Str) (st : Stmt) (f : Addr) (fd : FuncData) : Prop where
 ex : ∃ (oc : Value) (od : Option Addr) (kV doc pm : Value) (an : Option Addr) (cdv ct : Value) (osl : Array (Option Value)),
  fd = PySem.W.fnOf x qual (defArgs st) (defBody st) (defScope st) .none kV doc pm an cdv ct ∧ K.lookup f = some ⟨oc, od, .func fd, osl⟩ ∧ PySem.W.codeIn K cdv qual = true
 kp : PySem.W.keepIn K (.ref f) = true
section
variable {P : Program} {w : World} {K : PySem.W.Frag} {mg : Str → Option Value} {base : Heap}
theorem Fun.ok {x qual : Str} {st : Stmt} {f : Addr} {fd : FuncData} {N ps : List Str} {k : Nat} {sp : Sp} (F : Fun K x qual st f fd) (S : FnScope N ps (defScope st)) (len : ∀ vs H Q E, sp vs H Q E → vs.length = ps.length)
  (hbody : ∀ (cdv : Value) (A : Around) (outer : List Env) (s : Shared) (H : Hp) (vs : List V) (Q : VK) (E : XK), Room k (A.deeper (envOfC qual (defScope st) s.heap.objs.size f cdv)) → sp vs H Q E →
   ∃ t, PSs (cxOf CX0 P w K mg base N qual (defScope st) f cdv A outer s H E).nox (defBody st) t ∧ t { nx := fun _ H' => Q .non H', rt := Q } (start N vs) H) : FnOk P w K mg base CX0 (k + 1) f fd ps sp := by
 obtain ⟨oc, od, kV, doc, pm, an, cdv, ct, osl, rfl, lk, hcd⟩ := F.ex
 refine fn_of lk hcd S len fun A outer s H vs Q E hr hsp => ?_
 obtain ⟨t, h, q⟩ := hbody cdv A outer s H vs Q E hr hsp
 exact ⟨t, h.nox, q⟩
theorem Fun.binds {x qual : Str} {st : Stmt} {f : Addr} {fd : FuncData} {ps : List Str} (F : Fun K x qual st f fd)
  (h : ∀ (kV doc pm : Value) (an : Option Addr) (cdv ct : Value) (us : List Value), us.length = ps.length → bindArgs (PySem.W.fnOf x qual (defArgs st) (defBody st) (defScope st) .none kV doc pm an cdv ct) ⟨us, []⟩ = pure (ps.zip us)) : Binds K fd ps [] := by
 obtain ⟨oc, od, kV, doc, pm, an, cdv, ct, osl, rfl, lk, hcd⟩ := F.ex
 exact .all (h kV doc pm an cdv ct)
theorem fun_mk {x qual : Str} {st : Stmt} {f : Addr} {oc : Value} {od an : Option Addr} {osl : Array (Option Value)} {kV doc pm cdv ct : Value} (l : K.lookup f = some ⟨oc, od, .func (PySem.W.fnOf x qual (defArgs st) (defBody st) (defScope st) .none kV doc pm an cdv ct), osl⟩)
  (c : PySem.W.codeIn K cdv qual = true) (k : PySem.W.keepIn K (.ref f) = true) : Fun K x qual st f (PySem.W.fnOf x qual (defArgs st) (defBody st) (defScope st) .none kV doc pm an cdv ct) := ⟨⟨oc, od, kV, doc, pm, an, cdv, ct, osl, rfl, l, c⟩, k⟩
end
theorem hu_of {A : Around} {k : Nat} (hr : Room k A) : A.units + 1 < cLine := Nat.lt_of_le_of_lt (Nat.add_le_add_left (by decide : 1 ≤ 64) _) hr.units
section
variable {X : Cx}
theorem pv (i : Nat) {x : Str} {pos : Pos} (hN : X.N[i]? = some x := by rfl) (hv : Vis X.env.scope x := by first | exact Or.inl rfl | exact Or.inr (Or.inl rfl) | exact Or.inr (Or.inr rfl)) (hd : (x == ("__debug__" : Str)) = false := by decide)
  (hcd : (x == ("__classdict__" : Str)) = false := by decide) : PE X (.Name x pos) (tVar i) := pe_var hN hv hd hcd
end
noncomputable def Same (H H' : Hp) : Prop := ∀ b o, H b = some o → H' b = some o
theorem Same.refl (H : Hp) : Same H H := fun _ _ h => h
theorem Same.trans {H H1 H2 : Hp} (a : Same H H1) (b : Same H1 H2) : Same H H2 := fun c o h => b c o (a c o h)
theorem Same.free {H H' : Hp} (e : Same H H') {l : Addr} (h : H' l = Option.none) : H l = Option.none := by
 cases q : H l with
 | none => rfl
 | some o =>
  rw [e l o q] at h
  cases h
theorem Same.seq {K : PySem.W.Frag} {H H' : Hp} {a : Addr} {xs : List V} (e : Same H H') (h : SqL K H a xs) : SqL K H' a xs := by
 rcases h with (h | ⟨o, h⟩) | h
 ·exact .inl (.inl (e _ _ h))
 ·exact .inl (.inr ⟨o, e _ _ h⟩)
 ·exact .inr h
end L2
set_option Elab.async false
set_option linter.all false
set_option maxRecDepth 100000
namespace L2
open PySem PySem.Spec PyProof.Rows
section
variable {κ : Type} [DecidableEq κ]
noncomputable def valV (kvs : List (κ × V)) (k : κ) : Option V := (kvs.find? fun kv => decide (kv.1 = k)).map (·.2)
noncomputable def putK (kvs : List (κ × V)) (k : κ) (v : V) : List (κ × V) :=
 if (kvs.any fun kv => decide (kv.1 = k)) = true then kvs.map (fun kv => if kv.1 = k then (kv.1, v) else kv) else kvs ++ [(k, v)]
noncomputable def dropK (kvs : List (κ × V)) (k : κ) : List (κ × V) := kvs.filter fun kv => decide (kv.1 ≠ k)
theorem valV_pos {p : κ × V} {r : List (κ × V)} {k : κ} (e : p.1 = k) : valV (p :: r) k = some p.2 := by simp [valV, List.find?_cons, e]
theorem valV_neg {p : κ × V} {r : List (κ × V)} {k : κ} (e : ¬ p.1 = k) : valV (p :: r) k = valV r k := by simp [valV, List.find?_cons, e]
theorem valV_any (k : κ) : ∀ kvs : List (κ × V), (kvs.any fun kv => decide (kv.1 = k)) = (valV kvs k).isSome
 | [] => rfl
 | p :: r => by
  rw [List.any_cons]
  by_cases e : p.1 = k
  ·simp only [valV_pos e, decide_eq_true e, Bool.true_or, Option.isSome_some]
  ·rw [valV_neg e, decide_eq_false e, Bool.false_or]; exact valV_any k r
theorem length_putK (kvs : List (κ × V)) (k : κ) (v : V) : (putK kvs k v).length ≤ kvs.length + 1 := by
 unfold putK
 split
 ·rw [List.length_map]; omega
 ·rw [List.length_append, List.length_cons, List.length_nil]; omega
theorem RelO.isSome_eq {o : Option V} {u : Option Value} (r : RelO o u) : o.isSome = u.isSome := by
 cases o with
 | none => cases u with
  | none => rfl
  | some _ => exact (show False from r).elim
 | some _ => cases u with
  | none => exact (show False from r).elim
  | some _ => rfl
theorem RelO.getD {o : Option V} {u : Option Value} {d : V} {d' : Value} (r : RelO o u) (rd : RelV d d') : RelV (o.getD d) (u.getD d') := by
 cases o with
 | none => cases u with
  | none => exact rd
  | some _ => exact (show False from r).elim
 | some _ => cases u with
  | none => exact (show False from r).elim
  | some _ => exact r
theorem KV.val {kvs : List (κ × V)} {vs : List (κ × Value)} (r : KV kvs vs) (k : κ) : RelO (valV kvs k) (valueAt vs k) := by
 unfold KV at r
 induction r with
 | nil => exact True.intro
 | @cons p q ps qs h t ih =>
  obtain ⟨h1, h2⟩ := h
  by_cases e : p.1 = k
  ·have e' : q.1 = k := h1.symm.trans e
   have b : valueAt (q :: qs) k = some q.2 := by simp [valueAt, List.find?_cons, e']
   rw [valV_pos e, b]; exact h2
  ·have e' : ¬ q.1 = k := fun z => e (h1.trans z)
   have b : valueAt (q :: qs) k = valueAt qs k := by simp [valueAt, List.find?_cons, e']
   rw [valV_neg e, b]; exact ih
theorem KV.any {kvs : List (κ × V)} {vs : List (κ × Value)} (r : KV kvs vs) (k : κ) : (kvs.any fun kv => decide (kv.1 = k)) = vs.any fun kv => decide (kv.1 = k) := by
 unfold KV at r
 induction r with
 | nil => rfl
 | cons h t ih => rw [List.any_cons, List.any_cons, ih, h.1]
theorem KV.repl {kvs : List (κ × V)} {vs : List (κ × Value)} (r : KV kvs vs) (k : κ) {y : V} {u : Value} (ry : RelV y u) :
  KV (kvs.map fun kv => if kv.1 = k then (kv.1, y) else kv) (vs.map fun kv => if kv.1 = k then (kv.1, u) else kv) := by
 unfold KV at r ⊢
 induction r with
 | nil => exact .nil
 | @cons p q ps qs h t ih =>
  rw [List.map_cons, List.map_cons]
  refine .cons ?_ ih
  obtain ⟨h1, h2⟩ := h
  by_cases e : p.1 = k
  ·rw [if_pos e, if_pos (h1.symm.trans e)]; exact ⟨h1, ry⟩
  ·rw [if_neg e, if_neg (fun z => e (h1.trans z))]; exact ⟨h1, h2⟩
theorem KV.put {kvs : List (κ × V)} {vs : List (κ × Value)} (r : KV kvs vs) (k : κ) {y : V} {u : Value} (ry : RelV y u) : KV (putK kvs k y) (stored vs k u) := by
 unfold putK stored
 rw [r.any k]
 by_cases e : (vs.any fun kv => decide (kv.1 = k)) = true
 ·rw [if_pos e, if_pos e]; exact r.repl k ry
 ·rw [if_neg e, if_neg e]; exact Paired.snoc r ⟨rfl, ry⟩
theorem KV.drop {kvs : List (κ × V)} {vs : List (κ × Value)} (r : KV kvs vs) (k : κ) : KV (dropK kvs k) (without vs k) := by
 unfold KV at r ⊢
 unfold dropK without
 induction r with
 | nil => exact .nil
 | @cons p q ps qs h t ih =>
  obtain ⟨h1, h2⟩ := h
  rw [List.filter_cons, List.filter_cons]
  by_cases e : p.1 = k
  ·have a : ¬ decide (p.1 ≠ k) = true := by simp [e]
   have b : ¬ decide (q.1 ≠ k) = true := by simp [h1.symm.trans e]
   rw [if_neg a, if_neg b]; exact ih
  ·have e' : ¬ q.1 = k := fun z => e (h1.trans z)
   have a : decide (p.1 ≠ k) = true := by simp [e]
   have b : decide (q.1 ≠ k) = true := by simp [e']
   rw [if_pos a, if_pos b]; exact .cons ⟨h1, h2⟩ ih
theorem KV.keys {kvs : List (κ × V)} {vs : List (κ × Value)} (r : KV kvs vs) : kvs.map (·.1) = vs.map (·.1) := by
 unfold KV at r
 induction r with
 | nil => rfl
 | cons h t ih => rw [List.map_cons, List.map_cons, ih, h.1]
theorem KV.length {kvs : List (κ × V)} {vs : List (κ × Value)} (r : KV kvs vs) : kvs.length = vs.length := Paired.length r
end
theorem kV_is {P : Program} {w : World} {k : Key} {u : Value} (r : RelV (kV k) u) : (mixKind P w).is k u = true := by
 cases k with
 | inl i => obtain ⟨t, e⟩ := (show ∃ t, u = Value.int i t from r); subst e; exact mixKind_int P w i t
 | inr x => obtain ⟨t, e⟩ := (show ∃ t, u = Value.str x t from r); subst e; exact mixKind_str P w x t
theorem items_are {P : Program} {w : World} : ∀ {ks : List Key} {us : List Value}, Vals (ks.map kV) us → ItemsAre (mixKind P w) ks us
 | [], _, r => by rw [List.map_nil] at r; cases r; exact .nil
 | k :: ks, _, r => by
  rw [List.map_cons] at r
  cases r with
  | cons h t => exact .cons (kV_is h) (items_are t)
noncomputable abbrev KT (H : Hp) : List (List Key × V) → List (List Key × Addr × Value) → Prop := Paired fun p q => p.1 = q.1 ∧ H q.2.1 = some (.tup (p.1.map kV)) ∧ RelV p.2 q.2.2
theorem KT.val {H : Hp} {kvs : List (List Key × V)} {xs : List (List Key × Addr × Value)} (r : KT H kvs xs) (k : List Key) : RelO (valV kvs k) ((atKey xs k).map (·.2)) := by
 induction r with
 | nil => exact True.intro
 | @cons p q ps qs h t ih =>
  obtain ⟨h1, _, h2⟩ := h
  by_cases e : p.1 = k
  ·have e' : q.1 = k := h1.symm.trans e
   have b : atKey (q :: qs) k = some q.2 := by simp [atKey, List.find?_cons, e']
   rw [valV_pos e, b]; exact h2
  ·have e' : ¬ q.1 = k := fun z => e (h1.trans z)
   have b : atKey (q :: qs) k = atKey qs k := by simp [atKey, List.find?_cons, e']
   rw [valV_neg e, b]; exact ih
theorem KT.repl {H : Hp} {kvs : List (List Key × V)} {xs : List (List Key × Addr × Value)} (r : KT H kvs xs) (k : List Key) {y : V} {u : Value} (ry : RelV y u) :
  KT H (kvs.map fun kv => if kv.1 = k then (kv.1, y) else kv) (xs.map (putAt k u)) := by
 induction r with
 | nil => exact .nil
 | @cons p q ps qs h t ih =>
  rw [List.map_cons, List.map_cons]
  refine .cons ?_ ih
  obtain ⟨h1, h2, h3⟩ := h
  unfold putAt
  by_cases e : p.1 = k
  ·rw [if_pos e, if_pos (h1.symm.trans e)]; exact ⟨h1, h2, ry⟩
  ·rw [if_neg e, if_neg (fun z => e (h1.trans z))]; exact ⟨h1, h2, h3⟩
theorem KT.put {H : Hp} {kvs : List (List Key × V)} {xs : List (List Key × Addr × Value)} (r : KT H kvs xs) (k : List Key) {b : Addr} {y : V} {u : Value} (hb : H b = some (.tup (k.map kV))) (ry : RelV y u) :
  KT H (putK kvs k y) (storedH xs k b u) := by
 have e : (kvs.any fun kv => decide (kv.1 = k)) = (atKey xs k).isSome := by
  rw [valV_any, (r.val k).isSome_eq, Option.isSome_map]
 unfold putK storedH
 rw [e]
 by_cases q : (atKey xs k).isSome = true
 ·rw [if_pos q, if_pos q]; exact r.repl k ry
 ·rw [if_neg q, if_neg q]; exact Paired.snoc r ⟨rfl, hb, ry⟩
theorem KT.keeps {H H' : Hp} {kvs : List (List Key × V)} {xs : List (List Key × Addr × Value)} (r : KT H kvs xs) (ht : ∀ b ys, H b = some (.tup ys) → H' b = some (.tup ys)) : KT H' kvs xs :=
 Paired.mapP r fun _ _ z => ⟨z.1, ht _ _ z.2.1, z.2.2⟩
section
variable {P : Program} {w : World} {H : Hp} {h : Heap} {a : Addr}
theorem rd_of {u : HO} (ok : HOk P w H h) (e : Rd H a u) : ObjOk P w H h a u := e.ok ok
theorem dk_rd {kvs : List (Key × V)} (ok : HOk P w H h) (e : Rd H a (.dK kvs)) : kvs.length ≤ sizeLine ∧ (a == sysModules) = false ∧ ∃ vs, KV kvs vs ∧ h.DictOf (mixKind P w) a vs :=
 show ObjOk P w H h a (.dK kvs) from rd_of ok e
theorem dk_of {kvs : List (Key × V)} (ok : HOk P w H h) (e : H a = some (.dK kvs)) : kvs.length ≤ sizeLine ∧ (a == sysModules) = false ∧ ∃ vs, KV kvs vs ∧ h.DictOf (mixKind P w) a vs := dk_rd ok (.inl e)
theorem key_of {ks : List Key} (ok : HOk P w H h) (e : H a = some (.tup (ks.map kV))) : (tupleKind (mixKind P w)).is h ks a := by
 obtain ⟨_, its, r, o, h1, h2, n, h3⟩ := (show ObjOk P w H h a (.tup (ks.map kV)) from ok a _ e)
 exact ⟨o, its.toArray, n, h1, h2, h3, by simpa using items_are r⟩
theorem dt_rd {kvs : List (List Key × V)} (ok : HOk P w H h) (e : Rd H a (.dT kvs)) : kvs.length ≤ sizeLine ∧ (a == sysModules) = false ∧
  ∃ xs, KT H kvs xs ∧ h.DictOfH (tupleKind (mixKind P w)) a xs := by
 obtain ⟨z, y, xs, r, o, es, ep, h1, h2, h3, h4, h5⟩ := (show ObjOk P w H h a (.dT kvs) from rd_of ok e)
 refine ⟨z, y, xs, r, o, es, ep, h1, h2, h3, h4, fun x hx => ?_, h5⟩
 have all : ∀ {l : List (List Key × V)} {m : List (List Key × Addr × Value)}, KT H l m → ∀ x ∈ m, (tupleKind (mixKind P w)).is h x.1 x.2.1 := by
  intro l m q
  induction q with
  | nil => intro x hx; exact nomatch hx
  | @cons p q ps qs hq t ih =>
   intro x hx
   rcases List.mem_cons.mp hx with e | hx
   ·subst e
    exact key_of ok (by rw [← hq.1]; exact hq.2.1)
   ·exact ih x hx
 exact all r x hx
theorem dt_of {kvs : List (List Key × V)} (ok : HOk P w H h) (e : H a = some (.dT kvs)) : kvs.length ≤ sizeLine ∧ (a == sysModules) = false ∧
  ∃ xs, KT H kvs xs ∧ h.DictOfH (tupleKind (mixKind P w)) a xs := dt_rd ok (.inl e)
end
noncomputable def DGet (H : Hp) (a : Addr) (y : V) (r : Option V) : Prop :=
 (∃ kvs k, Rd H a (.dK kvs) ∧ y = kV k ∧ r = valV kvs k) ∨ ∃ kvs k b, Rd H a (.dT kvs) ∧ y = .ref b ∧ H b = some (.tup (k.map kV)) ∧ r = valV kvs k
noncomputable def DPut (H : Hp) (a : Addr) (y v : V) (H' : Hp) : Prop :=
 (∃ kvs k, H a = some (.dK kvs) ∧ y = kV k ∧ kvs.length < sizeLine ∧ H' = upd H a (.dK (putK kvs k v))) ∨
 ∃ kvs k b, H a = some (.dT kvs) ∧ y = .ref b ∧ H b = some (.tup (k.map kV)) ∧ kvs.length < sizeLine ∧ H' = upd H a (.dT (putK kvs k v))
theorem DGet.k {H : Hp} {a : Addr} {kvs : List (Key × V)} {k : Key} (e : H a = some (.dK kvs)) : DGet H a (kV k) (valV kvs k) := .inl ⟨kvs, k, .inl e, rfl, rfl⟩
theorem DGet.t {H : Hp} {a b : Addr} {kvs : List (List Key × V)} {k : List Key} (e : H a = some (.dT kvs)) (eb : H b = some (.tup (k.map kV))) : DGet H a (.ref b) (valV kvs k) := .inr ⟨kvs, k, b, .inl e, rfl, eb, rfl⟩
theorem DPut.k {H : Hp} {a : Addr} {kvs : List (Key × V)} {k : Key} {v : V} (e : H a = some (.dK kvs)) (hl : kvs.length < sizeLine) : DPut H a (kV k) v (upd H a (.dK (putK kvs k v))) := .inl ⟨kvs, k, e, rfl, hl, rfl⟩
theorem DPut.t {H : Hp} {a b : Addr} {kvs : List (List Key × V)} {k : List Key} {v : V} (e : H a = some (.dT kvs)) (eb : H b = some (.tup (k.map kV))) (hl : kvs.length < sizeLine) :
  DPut H a (.ref b) v (upd H a (.dT (putK kvs k v))) := .inr ⟨kvs, k, b, e, rfl, eb, hl, rfl⟩
section
variable {X : Cx} {pins : List (Addr × Obj)} {σ : St} {H : Hp} {s : Shared} {a : Addr} {y v : V} {u r : Value} {o : Option V} {A : Around} {E : Value → Shared → Prop}
theorem Inv.big (I : Inv X pins σ H s) : sysModules < s.heap.objs.size := by
 have h : mainGlobals < s.heap.objs.size := (I.mod.glob.keeps I.bk).lt
 exact Nat.lt_trans (by decide) h
theorem d_getItem {Q : Value → Shared → Prop} (hu : A.units + 1 < cLine) (I : Inv X pins σ H s) (g : DGet H a y (some v)) (ry : RelV y u) (h : ∀ w' s', Inv X pins σ H s' → RelV v w' → Q w' s') :
  wpAny (model X.prog X.w) A (getItem (.ref a) u) Q E s := by
 rcases g with ⟨kvs, k, e, ey, l⟩ | ⟨kvs, k, b, e, ey, eb, l⟩
 ·subst ey
  obtain ⟨z, hd, vs, rel, dd⟩ := dk_rd I.hok e
  obtain ⟨w', hw, rw'⟩ := RelO.some_of (v := v) (o := valueAt vs k) (by rw [l]; exact rel.val k)
  exact wpAny_getItem_of (kV_is ry) dd.mapOf hw (h w' _ (I.tok _) rw')
 ·subst ey
  cases (show u = Value.ref b from ry)
  obtain ⟨z, hd, xs, rel, dd⟩ := dt_rd I.hok e
  obtain ⟨w', hw, rw'⟩ := RelO.some_of (v := v) (o := (atKey xs k).map (·.2)) (by rw [l]; exact rel.val k)
  obtain ⟨p, hp, hp2⟩ := Option.map_eq_some_iff.mp hw
  refine wpAny_getItem_heap (tupleKind_room_in1 hu) (key_of I.hok eb) dd hp ?_
  rw [hp2]
  exact h w' _ (I.tok _) rw'
theorem d_write {h' : Heap} {t' : Nat} {ob : HO} (I : Inv X pins σ H s) (mu : Mut (H a)) (hs : Heap.SameBut a s.heap h') (he : ∃ q, h'.get? a = some q) (new : ObjOk X.prog X.w (upd H a ob) h' a ob) :
  Inv X pins σ (upd H a ob) { s with heap := h', toks := t' } :=
 I.write (x := a) (e := a) mu (.inl rfl) (fun b q hb z => (hs.2 b hb).trans z) he new
theorem dk_new {P : Program} {w : World} {H' : Hp} {h' : Heap} {kvs : List (Key × V)} {vs : List (Key × Value)} (z : kvs.length ≤ sizeLine) (hd : (a == sysModules) = false) (rel : KV kvs vs) (dd : h'.DictOf (mixKind P w) a vs) :
  ObjOk P w H' h' a (.dK kvs) := ⟨z, hd, vs, rel, dd⟩
theorem d_setItem {H' : Hp} {Q : Unit → Shared → Prop} (hu : A.units + 1 < cLine) (I : Inv X pins σ H s) (g : DPut H a y v H') (ry : RelV y u) (rv : RelV v r) (h : ∀ s', Inv X pins σ H' s' → Q () s') :
  wpAny (model X.prog X.w) A (setItem (.ref a) u r) Q E s := by
 rcases g with ⟨kvs, k, e, ey, l, eH⟩ | ⟨kvs, k, b, e, ey, eb, l, eH⟩
 ·subst ey eH
  obtain ⟨z, hd, vs, rel, dd⟩ := dk_of I.hok e
  have hz : vs.length ≤ sizeLine := by rw [← rel.length]; exact z
  have hl : (putK kvs k v).length ≤ sizeLine := by have := length_putK kvs k v; omega
  refine wpAny_setItem_pairs (hsz := hz) (kV_is ry) dd fun h' dd' hs => h _ ?_
  have he : ∃ q, h'.get? a = some q := let ⟨q, _, _, hq, _⟩ := dd'; ⟨q, hq⟩
  exact d_write I (by rw [e]; exact True.intro) hs he (dk_new hl hd (rel.put k rv) dd')
 ·subst ey eH
  cases (show u = Value.ref b from ry)
  obtain ⟨z, hd, xs, rel, dd⟩ := dt_of I.hok e
  have hz : xs.length ≤ sizeLine := by rw [← Paired.length rel]; exact z
  have hl : (putK kvs k v).length ≤ sizeLine := by have := length_putK kvs k v; omega
  refine wpAny_setItem_heap (hsz := hz) (tupleKind_room_in1 hu) (key_of I.hok eb) dd fun h' dd' hs => h _ ?_
  obtain ⟨q, es, ep, hq, h2, h3, h4, _, h5⟩ := dd'
  refine d_write I (by rw [e]; exact True.intro) hs ⟨q, hq⟩ ⟨hl, hd, _, (rel.put k eb rv).keeps fun c ys ec => ?_, q, es, ep, hq, h2, h3, h4, h5⟩
  rw [upd_ne (ne_of ec e (fun z => nomatch z))]
  exact ec
end
noncomputable def NoSl (i : Expr) : Prop := ∀ ov iv, subscripted i false ov iv = operate [ov, iv] (getItem ov iv)
theorem subD_of {prog : Program} {w : World} {A : Around} {E : Value → Shared → Prop} {s : Shared} {env : Env} {value slice : Expr} {pos : Pos} {T id : String} {Q : Value → Shared → Prop}
  (hl : typeLookup (.type T) "__getitem__" = pure (some (.builtin id))) (hs : NoSl slice)
  (h : wpAny (model prog w) A (eval value env) (fun o s₁ => wpAny (model prog w) A (eval slice env) (fun i s₂ => s₂.TypeIs o T ∧ wpAny (model prog w) A (getItem o i) Q E s₂) E s₁) E s) :
  wpAny (model prog w) A (eval (.Subscript value slice pos) env) Q E s := by
 refine Subscript_ (wpAny_mono h (fun o s₁ h₁ => wpAny_mono h₁ (fun i s₂ h₂ => ?_) fun _ _ x => x) fun _ _ x => x)
 obtain ⟨hT, h₂⟩ := h₂
 unfold subscriptTail
 refine wpAny_bind ?_
 rw [getitemInPython_of_ne hT.not_modules]
 refine wpAny_bind (wpAny_specialOf hT hl ?_)
 have fin : wpAny (model prog w) A (subscripted slice false o i) (fun r s₃ => wpAny (model prog w) A (letTemporaryGo value o r >>= fun _ => pure r) Q E s₃) E s₂ := by
  rw [hs o i]
  exact wpAny_operating (wpAny_mono h₂ (fun r s₃ h₃ => wpAny_bind (wpAny_letTemporaryGo (wpAny_pure h₃))) fun _ _ x => x)
 first
  | exact wpAny_pure (wpAny_bind fin)
  | exact wpAny_bind (wpAny_pure (wpAny_bind fin))
  | exact wpAny_bind fin
theorem dict_typeIs {X : Cx} {pins : List (Addr × Obj)} {σ : St} {H : Hp} {s : Shared} {a : Addr} {y : V} {o : Option V} (I : Inv X pins σ H s) (g : DGet H a y o) : s.TypeIs (.ref a) "dict" := by
 rcases g with ⟨kvs, k, e, _, _⟩ | ⟨kvs, k, b, e, _, _, _⟩
 ·obtain ⟨_, _, vs, _, dd⟩ := dk_rd I.hok e
  exact dd.typeIs
 ·obtain ⟨_, _, xs, _, dd⟩ := dt_rd I.hok e
  exact dd.typeIs
theorem dk_empty {P : Program} {w : World} {H : Hp} (h : Heap) (hb : sysModules < h.objs.size) : ObjOk P w H (h.push { cls := .type "dict", data := .dict #[] }) h.objs.size (.dK []) :=
 ⟨Nat.zero_le _, beq_eq_false_iff_ne.mpr (Ne.symm (Nat.ne_of_lt hb)), [], .nil, Heap.DictOf.new h⟩
noncomputable def tDNewK : TE := fun _ H Q => ∀ p, H p = none → Q (.ref p) (upd H p (.dK []))
noncomputable def tDNewT : TE := fun _ H Q => ∀ p, H p = none → Q (.ref p) (upd H p (.dT []))
noncomputable def tPairs : List (TE × TE) → St → Hp → (List (V × V) → Hp → Prop) → Prop
 | [], _, H, Q => Q [] H
 | (tk, tv) :: r, σ, H, Q => tk σ H fun x H1 => tv σ H1 fun y H2 => tPairs r σ H2 fun ps H3 => Q ((x, y) :: ps) H3
noncomputable abbrev VV : List (V × V) → List (Value × Value) → Prop := Paired fun p q => RelV p.1 q.1 ∧ RelV p.2 q.2
noncomputable def PPs (X : Cx) (pos : Pos) (keys : List (Option Expr)) (values : List Expr) (trs : List (TE × TE)) : Prop :=
 ∀ (pins : List (Addr × Obj)) (s : Shared) (σ : St) (H : Hp) (Q : List (V × V) → Hp → Prop), Inv X pins σ H s → tPairs trs σ H Q →
  wpAny (model X.prog X.w) X.A (evalPairs (pairTrees keys values X.env pos)) (fun vs s' => ∃ ps H', Inv X pins σ H' s' ∧ VV ps vs ∧ Q ps H') X.xe s
theorem pps_nil {X : Cx} {pos : Pos} : PPs X pos [] [] [] := fun pins s σ H Q I h => pairTrees_nil_walk ⟨[], H, I, .nil, h⟩
theorem pps_cons {X : Cx} {pos : Pos} {k v : Expr} {ks : List (Option Expr)} {vs : List Expr} {tk tv : TE} {trs : List (TE × TE)} (hk : PE X k tk) (hv : PE X v tv) (hr : PPs X pos ks vs trs) :
  PPs X pos (some k :: ks) (v :: vs) ((tk, tv) :: trs) := fun pins s σ H Q I h =>
 pairTrees_cons_walk (thn (hk pins s σ H _ I h) fun u s1 ⟨x, H1, I1, rx, q1⟩ => thn (hv pins s1 σ H1 _ I1 q1) fun w2 s2 ⟨y, H2, I2, ry, q2⟩ =>
  thn (hr pins s2 σ H2 _ I2 q2) fun ws s3 ⟨ps, H3, I3, rel, q3⟩ => ⟨(x, y) :: ps, H3, I3, .cons ⟨rx, ry⟩ rel, q3⟩)
noncomputable def mergeK (kvs more : List (Key × V)) : List (Key × V) := more.foldl (fun acc kv => putK acc kv.1 kv.2) kvs
theorem KV.merge : ∀ {more : List (Key × V)} {rs : List (Key × Value)} {kvs : List (Key × V)} {vs : List (Key × Value)}, KV more rs → KV kvs vs → KV (mergeK kvs more) (merged vs rs) := by
 intro more rs kvs vs r
 unfold KV at r
 induction r generalizing kvs vs with
 | nil => intro q; exact q
 | @cons p q ps qs h t ih =>
  intro r0
  have e : KV (putK kvs p.1 p.2) (stored vs q.1 q.2) := by
   have := r0.put p.1 h.2
   rw [← h.1]; exact this
  exact ih e
theorem length_mergeK : ∀ (more kvs : List (Key × V)), (mergeK kvs more).length ≤ kvs.length + more.length
 | [], kvs => by show kvs.length ≤ kvs.length + 0; omega
 | p :: r, kvs => by
  have h1 := length_mergeK r (putK kvs p.1 p.2)
  have h2 := length_putK kvs p.1 p.2
  show (mergeK (putK kvs p.1 p.2) r).length ≤ _
  rw [List.length_cons]; omega
theorem carries_of {P : Program} {w : World} : ∀ {kvs : List (Key × V)} {ws : List (Value × Value)}, VV (kvs.map fun kv => (kV kv.1, kv.2)) ws → ∃ rs, Carries (mixKind P w) ws rs ∧ KV kvs rs
 | [], _, r => by rw [List.map_nil] at r; cases r; exact ⟨[], True.intro, .nil⟩
 | p :: kvs, _, r => by
  rw [List.map_cons] at r
  cases r with
  | @cons a b as bs h t =>
   obtain ⟨rs, c, q⟩ := carries_of (P := P) (w := w) t
   obtain ⟨b1, b2⟩ := b
   exact ⟨(p.1, b2) :: rs, ⟨kV_is h.1, rfl, c⟩, .cons ⟨rfl, h.2⟩ q⟩
noncomputable def tDisp (trs : List (TE × TE)) : TE := fun σ H Q => ∀ p, H p = none → tPairs trs σ (upd H p (.dK [])) fun ps H2 => H2 p = some (.dK []) ∧ ∃ kvs : List (Key × V), ps = kvs.map (fun kv => (kV kv.1, kv.2)) ∧ kvs.length ≤ 15 ∧ Q (.ref p) (upd H2 p (.dK (mergeK [] kvs)))
theorem pe_disp {X : Cx} {pos : Pos} {keys : List (Option Expr)} {values : List Expr} {trs : List (TE × TE)} (h : PPs X pos keys values trs) (hall : keys.all (·.isSome) = true) (hl : keys.length = values.length) (h0 : keys ≠ [])
  (h15 : keys.length ≤ 15) : PE X (.Dict keys values pos) (tDisp trs) := by
 intro pins s σ H Q I q
 have hn := I.hok.fresh (Nat.le_refl s.heap.objs.size)
 have I1 := I.laid (a := s.heap.objs.size) (o := .dK []) (h' := s.heap.push { cls := .type "dict", data := .dict #[] }) (t' := s.toks) (fun _ _ q => Heap.get?_push_of_some _ q) (Nat.le_refl _) (dk_empty s.heap I.big)
 refine wpAny_Dict_walk (knd := mixKind X.prog X.w) hall hl h0 h15 (thn (h pins _ σ _ _ I1 (q _ hn)) fun ws s2 ⟨ps, H2, I2, rel, e, kvs, ep, lk, q2⟩ => ?_)
 subst ep
 obtain ⟨rs, c, rk⟩ := carries_of (P := X.prog) (w := X.w) rel
 obtain ⟨z, hd, vs0, r0, dd⟩ := dk_of I2.hok e
 cases r0
 refine ⟨rs, c, dd, fun h' dd' hs => ⟨.ref s.heap.objs.size, _, ?_, rfl, q2⟩⟩
 have hz : (mergeK [] kvs).length ≤ sizeLine := by
  have h1 := length_mergeK kvs []
  rw [List.length_nil] at h1
  rw [sizeLine_eq]; omega
 have he : ∃ q, h'.get? s.heap.objs.size = some q := let ⟨q, _, _, hq, _⟩ := dd'; ⟨q, hq⟩
 exact d_write I2 (by rw [e]; exact True.intro) hs he (dk_new hz hd (rk.merge .nil) dd')
structure M1 (X : Cx) (o : Expr) (m : Str) (apos : Pos) (e : Expr) (cpos : Pos) : Prop where
 base : attributeBase o m X.env (eval o X.env) = eval o X.env
 few : ((backTo cpos (starEach [e] X.env)).all (fun x => !x.1) && (backToKw cpos (keywordEach [] X.env)).all (fun x => x.1.isSome)
  && decide (([e] : List Expr).length + ([] : List Keyword).length + (if ([] : List Keyword).isEmpty then 0 else 1) < 30)) = true
 line : (apos.endLine == cpos.line) = true
 trees : backTo cpos (starEach [e] X.env) = [(false, eval e X.env)]
structure M2 (X : Cx) (o : Expr) (m : Str) (apos : Pos) (e f : Expr) (cpos : Pos) : Prop where
 base : attributeBase o m X.env (eval o X.env) = eval o X.env
 few : ((backTo cpos (starEach [e, f] X.env)).all (fun x => !x.1) && (backToKw cpos (keywordEach [] X.env)).all (fun x => x.1.isSome)
  && decide (([e, f] : List Expr).length + ([] : List Keyword).length + (if ([] : List Keyword).isEmpty then 0 else 1) < 30)) = true
 line : (apos.endLine == cpos.line) = true
 trees : backTo cpos (starEach [e, f] X.env) = [(false, eval e X.env), (false, eval f X.env)]
end L2
set_option Elab.async false
set_option linter.all false
set_option maxRecDepth 100000
namespace L2
open PySem PySem.Spec PyProof.Rows
noncomputable def Bd (n : Nat) (i : Int) : Prop := i.natAbs < 2 ^ n
theorem Bd.mono {m n : Nat} {i : Int} (h : Bd m i) (hm : m ≤ n) : Bd n i := Nat.lt_of_lt_of_le h (Nat.pow_le_pow_right (by decide) hm)
theorem pow_add_le (m n : Nat) : 2 ^ m + 2 ^ n ≤ 2 ^ (m + n + 1) := by
 have h1 : 2 ^ m ≤ 2 ^ (m + n) := Nat.pow_le_pow_right (by decide) (Nat.le_add_right _ _)
 have h2 : 2 ^ n ≤ 2 ^ (m + n) := Nat.pow_le_pow_right (by decide) (Nat.le_add_left _ _)
 have h3 : 2 ^ (m + n + 1) = 2 ^ (m + n) * 2 := Nat.pow_succ _ _
 omega
theorem Bd.sub {m n : Nat} {i j : Int} (h : Bd m i) (k : Bd n j) : Bd (m + n + 1) (i - j) := by
 have e := pow_add_le m n
 unfold Bd at *
 omega
theorem Bd.neg {m : Nat} {i : Int} (h : Bd m i) : Bd m (-i) := by
 unfold Bd at *
 omega
theorem Bd.abs {m : Nat} {i : Int} (h : Bd m i) : Bd m (if i < 0 then -i else i) := by
 split
 ·exact h.neg
 ·exact h
theorem Bd.of_le {n : Nat} {i : Int} (b : Int) (h1 : -b ≤ i) (h2 : i ≤ b) (hb : b.natAbs < 2 ^ n) : Bd n i := by
 unfold Bd
 omega
theorem Bd.bits {n : Nat} {i : Int} (h : Bd n i) : Builtin.Int.intBits i ≤ n := by
 unfold Bd at h
 unfold Builtin.Int.intBits
 split
 ·exact Nat.zero_le _
 ·rename_i z
  have : i.natAbs ≠ 0 := by
   intro e
   apply z
   have : i = 0 := by omega
   subst this
   rfl
  have := (Nat.log2_lt this).mpr h
  omega
theorem Bd.log {n : Nat} {i : Int} (h : Bd n i) (h0 : 0 < n) : i.natAbs.log2 < n := by
 by_cases e : i.natAbs = 0
 ·rw [e]
  exact Nat.lt_of_le_of_lt (by decide) h0
 ·exact (Nat.log2_lt e).mpr h
section
variable {X : Cx}
noncomputable def CMulA (i j : Int) : Prop := CMul i j ∨ (Bd 100000 i ∧ Bd 100000 j)
theorem CMulA.ok {i j : Int} (h : CMulA i j) : IntMulOk i j := by
 rcases h with h | ⟨h1, h2⟩
 ·exact h.ok
 ·exact .of_bits (Nat.le_trans h1.bits (by decide)) (Nat.le_trans h2.bits (by decide))
theorem op_mulA : OpR X (binaryOp .Mult) (rI CMulA fun i j => .int (i * j)) := opI fun _ _ _ _ _ _ _ hc q => mul_int q hc.ok
theorem op_fdivB : OpR X (binaryOp .FloorDiv) (rI (fun _ j => j ≠ 0 ∧ Bd 9000 j) fun i j => .int (i.fdiv j)) := opI fun _ _ _ _ _ _ _ hc q => floordiv_int hc.1 q (.inl (PyProof.noPylong_of_log2 (hc.2.log (by decide))))
theorem op_powB : OpR X (binaryOp .Pow) (rI (fun i j => 0 ≤ j ∧ j ≤ 100 ∧ Bd 100000 i) fun i j => .int (i ^ j.toNat)) := opI fun i j _ _ _ _ _ hc q => by
 obtain ⟨h1, h2, h3⟩ := hc
 refine pow_int h1 ?_ q
 have hb : Builtin.Int.intBits i ≤ 100000 := h3.bits
 have e : ((Builtin.Int.intBits i : Nat) : Int) * j ≤ 100000 * 100 := Int.mul_le_mul (by omega) h2 h1 (by decide)
 exact Int.le_trans e (by decide)
end
end L2
set_option Elab.async false
set_option linter.all false
set_option maxRecDepth 100000
namespace L2
open PySem PySem.Spec PyProof.Rows
section
variable {prog : Program} {w : World} {A : Around} {E : Value → Shared → Prop} {s : Shared}
theorem draw_listL {it l : Addr} {items : Array Value} (hne : l ≠ it) : ∀ (n i : Nat) (s : Shared) (Q : List Value → Shared → Prop), s.heap.IsListIter it l i → s.heap.IsList l items → i + n ≤ items.size →
  (∀ h', h'.IsListIter it l (i + n) → Heap.SameBut it s.heap h' → Q ((items.toList.drop i).take n) { s with heap := h' }) → wpAny (model prog w) A (draw (.ref it) n) Q E s
 | 0, i, s, Q, hit, _, _, hQ => by
  show wpAny _ _ (pure []) Q E s
  exact wpAny_pure (by simpa using hQ s.heap hit (Heap.SameBut.refl ..))
 | n + 1, i, s, Q, hit, ht, hle, hQ => by
  have hlt : i < items.size := by omega
  show wpAny _ _ (pyNext (.ref it) >>= _) Q E s
  refine wpAny_bind (wpAny_pyNext_list_item hit ht (x := items[i]) (by simp [hlt]) fun h₁ hit₁ hs₁ => ?_)
  refine wpAny_bind (wpAny_holding (draw_listL hne n (i + 1) _ _ hit₁ (ht.extBut hs₁.extBut hne) (by omega) fun h₂ hit₂ hs₂ => wpAny_pure ?_))
  have hd : items.toList.drop i = items[i] :: items.toList.drop (i + 1) := by simp [List.drop_eq_getElem_cons, hlt]
  have := hQ h₂ (by rw [show i + (n + 1) = i + 1 + n by omega]; exact hit₂) (hs₁.trans hs₂)
  rw [hd, List.take_succ_cons] at this
  exact this
theorem unpackItems_listL {t : Addr} {items : Array Value} {Q : List Value → Shared → Prop} (hh : A.handled = none) (ht : s.heap.IsList t items)
  (hQ : ∀ h', Heap.ExtBut s.heap.objs.size s.heap h' → Q items.toList { s with heap := h' }) : wpAny (model prog w) A (unpackItems (.ref t) items.size none) Q E s := by
 have hlt : t ≠ s.heap.objs.size := by obtain ⟨o, ho, _⟩ := ht; exact Nat.ne_of_lt (Heap.lt_size ho)
 unfold unpackItems
 refine wpAny_bind ?_
 ·unfold notIterableAtAll
  refine wpAny_bind (wpAny_specialOf ht.typeIs slot_list_iter.lookup ?_)
  refine wpAny_pure ?_
  simp only [Bool.false_eq_true, if_false]
  refine wpAny_bind (wpAny_holding (wpAny_pyIter_list ht ?_))
  have ht0 : (s.heap.push { cls := .type "list_iterator", data := .fields #[.ref t, .int 0 0] }).IsList t items := ht.at fun o e => Heap.get?_push_of_some _ e
  refine wpAny_bind (wpAny_holding (draw_listL hlt items.size 0 _ _ ⟨_, Heap.get?_push_size _ rfl, rfl, rfl⟩ ht0 (by omega) fun h₁ hit₁ hs₁ => ?_))
  have hall : List.take items.size (List.drop 0 items.toList) = items.toList := by
   rw [List.drop_zero]; exact List.take_of_length_le (by simp)
  rw [hall]
  rw [if_neg (by simp)]
  have ht₁ : h₁.IsList t items := ht0.extBut hs₁.extBut hlt
  refine wpAny_bind (wpAny_holding (wpAny_pyNext_list_end hh hit₁ ht₁ (by simp) fun h₂ he₂ => ?_))
  simp only [Option.isSome_none, Bool.false_eq_true, if_false]
  refine wpAny_pure (hQ h₂ fun b o hb e => he₂ b o hb (hs₁.extBut b o hb (Heap.get?_push_of_some _ e)))
theorem assign_Tuple_listL {env : Env} {elts : List Expr} {x1} {pos : Pos} {t : Addr} {items : Array Value} {Q : Unit → Shared → Prop} (hh : A.handled = none) (ht : s.heap.IsList t items)
  (hn : (assignEach elts env).length = items.size) (hstar : (assignEach elts env).findIdx? (·.1) = none)
  (h : ∀ h', Heap.ExtBut s.heap.objs.size s.heap h' → wpAny (model prog w) A (assignInOrder ((assignEach elts env).map (·.2)) items.toList) Q E { s with heap := h' }) :
  wpAny (model prog w) A (assign (.Tuple elts x1 pos) env (.ref t)) Q E s := by
 rw [assign_Tuple]
 refine wpAny_bind (wpAny_standAt ?_)
 unfold unpack
 rw [hn, hstar]
 exact wpAny_bind (wpAny_holding (unpackItems_listL hh ht h))
end
section
variable {X : Cx} {pos : Pos}
noncomputable def gLst (K : PySem.W.Frag) (n : Nat) (t : TGs) : TG := fun v σ H Q => ∃ a xs, v = .ref a ∧ SqL K H a xs ∧ xs.length = n ∧ t xs σ H Q
theorem pg_lst {es : List Expr} {k : Nat} {t : TGs} {n : Nat} (hc : X.calm = true) (h : PGs X es t)
  (hn : (assignEach es X.env).length = n := by rfl) (hst : (assignEach es X.env).findIdx? (·.1) = none := by rfl) : PG X (.Tuple es k pos) (gLst X.K n t) := by
 intro pins s σ H v u Q I r hw
 obtain ⟨a, xs, e1, hq, hl, hw⟩ := hw
 subst e1
 cases r
 obtain ⟨its, rv, ht, hz⟩ := I.list hq
 refine assign_Tuple_listL (I.ok.hd hc) ht.isList (by simp [hn, ← hl, rv.length]) hst fun h' hx => ?_
 have I1 : Inv X pins σ H { s with heap := h' } := I.kept (t' := s.toks) fun b o e => hx b o (Nat.ne_of_lt (Heap.lt_size e)) e
 exact h pins _ σ H xs _ Q I1 (by simpa using rv) hw
noncomputable def gSeq (K : PySem.W.Frag) (n : Nat) (t : TGs) : TG := fun v σ H Q => gTup K n t v σ H Q ∨ gLst K n t v σ H Q
theorem pg_seq {es : List Expr} {k : Nat} {t : TGs} {n : Nat} (hc : X.calm = true) (h : PGs X es t)
  (hn : (assignEach es X.env).length = n := by rfl) (hst : (assignEach es X.env).findIdx? (·.1) = none := by rfl) : PG X (.Tuple es k pos) (gSeq X.K n t) := by
 intro pins s σ H v u Q I r hw
 rcases hw with hw | hw
 ·exact pg_tup hc h hn hst pins s σ H v u Q I r hw
 ·exact pg_lst hc h hn hst pins s σ H v u Q I r hw
end
theorem closureFor_go {env : Env} : ∀ (names : List (Str × NameKind)) (acc : List (Str × Addr)), (∀ y ∈ names, y.2 = .free → ∃ c, env.cells.lookup y.1 = some c) → (∀ x c, acc.lookup x = some c → env.cells.lookup x = some c) →
  ∃ cl, (forIn (m := Sem) names acc fun y cs => (match y with | (name, kind) => do
    let mut cs := cs
    if kind == .free then cs := (name, ← cellOf env name) :: cs
    pure (ForInStep.yield cs) : Sem (ForInStep (List (Str × Addr))))) = pure cl ∧ (∀ x c, cl.lookup x = some c → env.cells.lookup x = some c) ∧ (∀ y ∈ names, y.2 = .free → ∃ c, cl.lookup y.1 = some c) ∧ (∀ x c, acc.lookup x = some c → ∃ c', cl.lookup x = some c')
 | [], acc, _, ha => ⟨acc, rfl, ha, fun _ z => absurd z List.not_mem_nil, fun x c h => ⟨c, h⟩⟩
 | (n, k) :: r, acc, hf, ha => by
  by_cases hk : k = .free
  ·subst hk
   obtain ⟨c, hc⟩ := hf (n, .free) List.mem_cons_self rfl
   obtain ⟨cl, e, h1, h2, h3⟩ := closureFor_go r ((n, c) :: acc) (fun y hy => hf y (List.mem_cons_of_mem _ hy)) (fun x d hx => by
    rw [List.lookup_cons] at hx
    split at hx
    ·rename_i z
     have : x = n := by simpa using z
     subst this
     cases hx
     exact hc
    ·exact ha x d hx)
   refine ⟨cl, ?_, h1, fun y hy hyf => ?_, fun x d hx => ?_⟩
   ·rw [List.forIn_cons]
    simp only [beq_self_eq_true, if_true, cellOf, hc, pure_bind, bind_pure_comp, map_pure]
    simp only [cellOf] at e
    simpa using e
   ·rcases List.mem_cons.mp hy with z | z
    ·subst z
     exact h3 n c (by simp)
    ·exact h2 y z hyf
   ·by_cases z : x = n
    ·subst z
     exact h3 x c (by simp)
    ·refine h3 x d ?_
     rw [List.lookup_cons]
     have : (x == n) = false := by simpa using z
     rw [this]
     exact hx
  ·obtain ⟨cl, e, h1, h2, h3⟩ := closureFor_go r acc (fun y hy => hf y (List.mem_cons_of_mem _ hy)) ha
   have hb : (k == NameKind.free) = false := by simpa using hk
   refine ⟨cl, ?_, h1, fun y hy hyf => ?_, h3⟩
   ·rw [List.forIn_cons]
    simp only [hb, Bool.false_eq_true, if_false, pure_bind]
    simpa using e
   ·rcases List.mem_cons.mp hy with z | z
    ·subst z
     exact absurd hyf hk
    ·exact h2 y z hyf
theorem closureFor_ok {scope : Scope} {env : Env} (hf : ∀ y ∈ scope.names, y.2 = .free → ∃ c, env.cells.lookup y.1 = some c) :
  ∃ cl, closureFor scope env = pure cl ∧ (∀ x c, cl.lookup x = some c → env.cells.lookup x = some c) ∧ (∀ y ∈ scope.names, y.2 = .free → ∃ c, cl.lookup y.1 = some c) := by
 obtain ⟨cl, e, h1, h2, _⟩ := closureFor_go (env := env) scope.names [] hf (fun x c h => by simp at h)
 refine ⟨cl, ?_, h1, h2⟩
 unfold closureFor
 have e' := e
 simp only [bind_pure] at *
 first | exact e | (rw [e]; rfl) | simpa using e
end L2
set_option Elab.async false
set_option linter.all false
set_option maxRecDepth 100000
namespace L2
open PySem PySem.Spec PyProof.Rows
noncomputable def cxLC (X : Cx) (scope : Scope) (cl : List (Str × Addr)) (N : List Str) (C : Addr) (s : Shared) (H : Hp) (ex : List Addr) (pn : List (Addr × Obj)) : Cx where
 prog := X.prog
 w := X.w
 K := X.K
 mg := X.mg
 base := X.base
 A := X.A
 N := N
 s₀ := s
 H₀ := H
 env := compEnvC scope cl C X.env
 outer := X.stack
 stack := X.stack
 ex := ex
 fn := fun _ => false
 calm := X.calm
 pn := pn
 xe := fun _ _ => False
structure CScope (X : Cx) (scope : Scope) (N : List Str) (k : Nat) (js : List Nat) : Prop where
 kind : scope.kind = .function
 nocell : ∀ y ∈ scope.names, y.2 ≠ .cell
 names : ∀ y ∈ scope.names, y.2 = .local → scope.names.lookup y.1 = some .local
 frees : ∀ y ∈ scope.names, y.2 = .free → X.env.kindOf y.1 = some .cell ∨ X.env.kindOf y.1 = some .free
 len : N.length = k + js.length
 look : ∀ i j, js[i]? = some j → ∃ x, N[k + i]? = some x ∧ X.N[j]? = some x ∧ scope.names.lookup x = some .free
theorem relabel_lookup {scope : Scope} {env : Env} (x : Str) : (relabel scope env).names.lookup x = (scope.names.lookup x).map fun k => if (k == .free && env.scope.kind == .function && env.kindOf x == some .cell) then .cell else k := by
 unfold relabel
 dsimp only
 generalize scope.names = l
 induction l with
 | nil => rfl
 | cons y r ih =>
  obtain ⟨n, k⟩ := y
  rw [List.map_cons, List.lookup_cons]
  by_cases hx : x = n
  ·subst hx
   dsimp only
   by_cases hc : (k == NameKind.free && env.scope.kind == ScopeKind.function && env.kindOf x == some NameKind.cell) = true
   ·rw [if_pos hc]
    simp only [List.lookup_cons, beq_self_eq_true, Option.map_some]
    rw [if_pos hc]
   ·rw [if_neg hc]
    simp only [List.lookup_cons, beq_self_eq_true, Option.map_some]
    rw [if_neg hc]
  ·have hb : (x == n) = false := by simpa using hx
   dsimp only
   by_cases hc : (k == NameKind.free && env.scope.kind == ScopeKind.function && env.kindOf n == some NameKind.cell) = true
   ·rw [if_pos hc]
    simp only [List.lookup_cons, hb]
    exact ih
   ·rw [if_neg hc]
    simp only [List.lookup_cons, hb]
    exact ih
theorem lookup_mem {α : Type} : ∀ {l : List (Str × α)} {x : Str} {v : α}, l.lookup x = some v → (x, v) ∈ l
 | [], _, _, h => by simp at h
 | (n, k) :: r, x, v, h => by
  rw [List.lookup_cons] at h
  split at h
  ·rename_i z
   have : x = n := by simpa using z
   subst this
   cases h
   exact List.mem_cons_self
  ·exact List.mem_cons_of_mem _ (lookup_mem h)
noncomputable def frV (σ : St) (js : List Nat) : St := js.map fun j => (σ[j]?).join
noncomputable def stLC (σ : St) (k : Nat) (js : List Nat) : St := List.replicate k none ++ frV σ js
section
variable {X : Cx} {pins : List (Addr × Obj)} {σ : St} {H : Hp} {s : Shared} {scope : Scope} {N : List Str} {k : Nat} {js : List Nat} {cl : List (Str × Addr)} {fp : List Addr}
theorem Inv.block {h1 : Heap} {tk : Nat} (I : Inv X pins σ H s) (S : CScope X scope N k js)
  (hcl1 : ∀ x c, cl.lookup x = some c → X.env.cells.lookup x = some c) (hcl2 : ∀ y ∈ scope.names, y.2 = .free → ∃ c, cl.lookup y.1 = some c)
  (hns : h1.Ns s.heap.objs.size (fun _ => none)) (hk : ∀ b o, s.heap.get? b = some o → h1.get? b = some o)
  (hf : ∀ b ∈ fp, FpOk X pins H b) (hfp : ∀ b ∈ fp, ∃ o, s.heap.get? b = some o ∧ ∀ v, o.data ≠ .cell v) :
  Inv (cxLC X scope cl N s.heap.objs.size s H fp (X.pn ++ pins)) [] (stLC σ k js) H { s with heap := h1, toks := tk } := by
 have hxc : ∀ x c, cl.lookup x = some c → c < s.heap.objs.size := fun x c h => by
  obtain ⟨v, q⟩ := I.cell x c (hcl1 x c h)
  exact q.lt
 have lkL : ∀ x, (compEnvC scope cl s.heap.objs.size X.env).kindOf x = (scope.names.lookup x).map fun k => if (k == .free && X.env.scope.kind == .function && X.env.kindOf x == some .cell) then .cell else k := fun x => relabel_lookup x
 refine ⟨⟨I.ok.mod, S.kind, I.ok.glob, I.ok.blt, Nat.le_refl _, fun x y c h1 h2 => I.ok.inj x y c (hcl1 x c h1) (hcl1 y c h2), fun x hx => ?_, fun x c h _ => absurd (show false = true from h) (by decide), I.ok.hd, I.ok.frames, .inl rfl, fun b hb => ?_, I.bs,
  Nat.le_trans I.ok.bsz I.sz, fun b o e z => ?_, fun b hb z => ?_, I.stack, I.stkFree⟩, rfl, I.bare, Un.kept hk, ⟨_, hns, fun i x v e1 e2 e3 => ?_⟩, fun x c h => ?_, ?_, fun x c h => I.freeC x c (hcl1 x c h), fun p hp => ?_, I.hok.kept hk, ?_⟩
 ·-- has
  have hx : ((scope.names.lookup x).map fun k => if (k == .free && X.env.scope.kind == .function && X.env.kindOf x == some .cell) then NameKind.cell else k) = some .cell ∨ ((scope.names.lookup x).map fun k => if (k == .free && X.env.scope.kind == .function && X.env.kindOf x == some .cell) then NameKind.cell else k) = some .free := by
   rcases hx with hx | hx
   ·exact .inl ((lkL x).symm.trans hx)
   ·exact .inr ((lkL x).symm.trans hx)
  have : scope.names.lookup x = some .free := by
   cases e : scope.names.lookup x with
   | none => rw [e] at hx; rcases hx with hx | hx <;> cases hx
   | some q =>
    rw [e] at hx
    by_cases hq : q = .free
    ·rw [hq]
    ·have hb : (q == NameKind.free) = false := by simpa using hq
     simp only [Option.map_some, hb, Bool.false_and, Bool.false_eq_true, if_false, Option.some.injEq] at hx
     rcases hx with hx | hx
     ·exact absurd hx (S.nocell _ (lookup_mem e))
     ·exact absurd hx hq
  obtain ⟨c, hc⟩ := hcl2 _ (lookup_mem this) rfl
  exact ⟨c, hc⟩
 ·obtain ⟨f0, f1, f2, f3, f4, f5⟩ := hf b hb
  obtain ⟨o, ho, _⟩ := hfp b hb
  exact ⟨Nat.ne_of_lt (Heap.lt_size ho), fun x c h => f4 x c (hcl1 x c h)⟩
 ·obtain ⟨f0, f1, f2, f3, f4, f5⟩ := hf b z
  rcases f3 with f3 | f3
  ·exact I.ok.noex b o e f3
  ·exact absurd (Nat.lt_of_lt_of_le (Heap.lt_size (I.ok.bs b o e).1) f3) (Nat.lt_irrefl _)
 ·obtain ⟨f0, f1, f2, f3, f4, f5⟩ := hf b hb
  rcases List.mem_cons.mp (I.stkSub b z) with q | q
  ·exact f1 q
  ·exact f2 q
 ·-- the values
  by_cases hi : i < k
  ·have : (stLC σ k js)[i]? = some none := by
    unfold stLC
    rw [List.getElem?_append_left (by simpa using hi), List.getElem?_replicate, if_pos hi]
   rw [this] at e2
   cases e2
  ·obtain ⟨d, rfl⟩ : ∃ d, i = k + d := ⟨i - k, by omega⟩
   have e2' : (frV σ js)[d]? = some (some v) := by
    unfold stLC at e2
    rw [List.getElem?_append_right (by simp)] at e2
    simpa using e2
   unfold frV at e2'
   rw [List.getElem?_map] at e2'
   cases ej : js[d]? with
   | none => rw [ej] at e2'; cases e2'
   | some j =>
    rw [ej] at e2'
    have ev : (σ[j]?).join = some v := Option.some.inj e2'
    have ev' : σ[j]? = some (some v) := by
     cases q : σ[j]? with
     | none => rw [q] at ev; cases ev
     | some z => rw [q] at ev; rw [show z = some v from ev]
    obtain ⟨x', n1, n2, n3⟩ := S.look d j ej
    have : x' = x := Option.some.inj (n1.symm.trans e1)
    subst this
    obtain ⟨m, hn, hl⟩ := I.loc
    have hkx := S.frees _ (lookup_mem n3) rfl
    have hvis : Vis X.env.scope x' := by
     rcases hkx with q | q
     ·exact .inr (.inl q)
     ·exact .inr (.inr q)
    obtain ⟨u, r, l⟩ := hl j x' v n2 ev' hvis
    refine ⟨u, r, ?_⟩
    obtain ⟨c, hc⟩ := hcl2 _ (lookup_mem n3) rfl
    rcases l with ⟨l1, _⟩ | ⟨l1, c', l2, l3⟩
    ·rcases hkx with q | q
     ·exact absurd (l1.symm.trans q) (by decide)
     ·exact absurd (l1.symm.trans q) (by decide)
    ·have : c' = c := Option.some.inj (l2.symm.trans (hcl1 _ c hc))
     subst this
     refine .inr ⟨?_, c', hc, ?_⟩
     ·have q := lkL x'
      rw [n3] at q
      by_cases hb : ((NameKind.free == NameKind.free && X.env.scope.kind == .function && X.env.kindOf x' == some .cell)) = true
      ·left
       show (compEnvC scope cl s.heap.objs.size X.env).kindOf x' = _
       rw [q]
       simp only [Option.map_some]
       rw [if_pos hb]
      ·right
       show (compEnvC scope cl s.heap.objs.size X.env).kindOf x' = _
       rw [q]
       simp only [Option.map_some]
       rw [if_neg hb]
     ·obtain ⟨o, ho, hd⟩ := l3
      exact ⟨o, hk _ o ho, hd⟩
 ·obtain ⟨v, o, ho, hd⟩ := I.cell x c (hcl1 x c h)
  exact ⟨v, o, hk _ o ho, hd⟩
 ·exact I.hok.fresh (Nat.le_refl _)
 ·have hp' : p ∈ X.pn ++ pins := by simpa [cxLC] using hp
  obtain ⟨e, n, ne, nf, d⟩ := I.pin p hp'
  exact ⟨hk _ _ e, n, Nat.ne_of_lt (Heap.lt_size e), fun z => (List.mem_cons.mp (I.stkSub _ z)).elim ne nf, d⟩
 ·show (stLC σ k js).length = N.length
  unfold stLC frV
  rw [S.len]
  simp
end
end L2
set_option Elab.async false
set_option linter.all false
set_option maxRecDepth 100000
namespace L2
open PySem PySem.Spec PyProof.Rows
noncomputable def PIfs (X : Cx) (ifs : List Expr) (t : TT) : Prop :=
 ∀ (pins : List (Addr × Obj)) (s : Shared) (σ : St) (H : Hp) (Q : Bool → Hp → Prop), Inv X pins σ H s → t σ H Q →
  wpAny (model X.prog X.w) X.A (forIn ifs true fun c r => if r = true then do let ok ← isTrue c X.env (eval c X.env); pure (ForInStep.yield ok) else pure (ForInStep.yield r)) (TP X pins σ Q) X.xe s
noncomputable def tYes : TT := fun _ H Q => Q true H
theorem pifs_nil {X : Cx} : PIfs X [] tYes := fun _ _ _ H _ I h => wpAny_tests_nil ⟨H, I, h⟩
noncomputable def tLC (wi : TI) (k : Nat) (js : List Nat) (g : TG) (tt : TT) (te : TE) : TE := fun σ H Q => wi σ H fun J H1 => ∀ D, H1 D = none →
 ∃ W : Nat → Nat → List V → Hp → Prop, (∃ m, W 0 m [] (upd H1 D (.lst []))) ∧ ∀ i m ys H, W i m ys H → H D = some (.lst ys) ∧
  ((J.stop i H ∧ Q (.ref D) H) ∨ (J.go i H ∧ ys.length < sizeLine ∧ ∃ N : List V → Hp → Prop, (∀ ys' H', N ys' H' → ∃ m', m' < m ∧ W (i + 1) m' ys' H') ∧
   ∀ x H', J.yld i H x H' → g x (stLC σ k js) H' fun σ2 H2 => (σ2.drop k = frV σ js ∧ σ2.length = k + js.length) ∧ tt σ2 H2 fun b H3 => if b = true then te σ2 H3 fun y H4 => H4 D = some (.lst ys) ∧ N (ys ++ [y]) (upd H4 D (.lst (ys ++ [y]))) else N ys H3))
section
variable {X : Cx} {scope : Scope} {N : List Str} {k : Nat} {js : List Nat} {elt iter tg : Expr} {ifs : List Expr} {pos : Pos} {wi : TI} {g : TG} {tt : TT} {te : TE}
theorem lc_keep {σ σ2 : St} (h1 : σ2.drop k = frV σ js) (h2 : σ2.length = k + js.length) (i : Nat) (v : V) (h : (stLC σ k js)[i]? = some (some v)) : σ2[i]? = some (some v) := by
 unfold stLC at h
 by_cases hi : i < k
 ·rw [List.getElem?_append_left (by simpa using hi), List.getElem?_replicate, if_pos hi] at h
  cases h
 ·rw [List.getElem?_append_right (by simpa using hi), ← h1, List.getElem?_drop] at h
  simp only [List.length_replicate] at h
  rw [show k + (i - k) = i by omega] at h
  exact h
theorem lc_block {pins : List (Addr × Obj)} {σ : St} {H : Hp} {s : Shared} {cl : List (Str × Addr)} {Q : VK} {it : Addr} {fp : List Addr} {tn : Nat → Heap → Prop} {J : It} {RR : Value → Addr → Result → Shared → Prop}
  (S : CScope X scope N k js) (hc : X.calm = true)
  (hg : ∀ cl C s H ex pn, PG (cxLC X scope cl N C s H ex pn) tg g) (ht : ∀ cl C s H ex pn, PIfs (cxLC X scope cl N C s H ex pn) ifs tt) (he : ∀ cl C s H ex pn, PE (cxLC X scope cl N C s H ex pn) elt te)
  (hcl1 : ∀ x c, cl.lookup x = some c → X.env.cells.lookup x = some c) (hcl2 : ∀ y ∈ scope.names, y.2 = .free → ∃ c, cl.lookup y.1 = some c)
  (I : Inv X pins σ H s) (T : Turn X.prog X.w X.K tg J fp it tn) (hst : tn 0 s.heap) (hf : ∀ b ∈ fp, FpOk X pins H b)
  (hr : ∀ D, H D = none →
   ∃ W : Nat → Nat → List V → Hp → Prop, (∃ m, W 0 m [] (upd H D (.lst []))) ∧ ∀ i m ys H, W i m ys H → H D = some (.lst ys) ∧
    ((J.stop i H ∧ Q (.ref D) H) ∨ (J.go i H ∧ ys.length < sizeLine ∧ ∃ N : List V → Hp → Prop, (∀ ys' H', N ys' H' → ∃ m', m' < m ∧ W (i + 1) m' ys' H') ∧
     ∀ x H', J.yld i H x H' → g x (stLC σ k js) H' fun σ2 H2 => (σ2.drop k = frV σ js ∧ σ2.length = k + js.length) ∧ tt σ2 H2 fun b H3 => if b = true then te σ2 H3 fun y H4 => H4 D = some (.lst ys) ∧ N (ys ++ [y]) (upd H4 D (.lst (ys ++ [y]))) else N ys H3)))
  (hend : ∀ D C H' s' m, Inv X pins σ H' s' → s'.heap.Ns C m → H' C = none → C ≠ X.env.locals → C ∉ frs X.stack → X.s₀.heap.objs.size ≤ C → (∀ x c, X.env.cells.lookup x = some c → c ≠ C) → (∀ p ∈ X.pn ++ pins, p.1 ≠ C) → D ≠ C → Q (.ref D) H' → RR (.ref D) C (.ok .next) s')
  {E : Value → Shared → Prop} :
  wpAny (model X.prog X.w) X.A (newList []) (fun acc s₃ => wpAny (model X.prog X.w) X.A (newFunctionEnv scope X.env.globals cl [] X.env.qual none .none (some X.env)) (fun cenv s₄ =>
   codeAny (model X.prog X.w) X.A (.compStart (.ListComp elt [⟨tg, iter, ifs, 0⟩] scope pos) 0 (.ref it) acc { cenv with scope := relabel scope X.env }) (RR acc cenv.locals) s₄) E s₃) E s := by
 refine wpAny_newObj_type (wpAny_newFunctionEnv S.nocell (by intro y hy; simp at hy) (fun h₁ hns₁ hsb₁ => ?_) S.kind)
 dsimp only at hns₁ hsb₁ ⊢
 have hD : H s.heap.objs.size = none := I.fresh
 obtain ⟨W, ⟨m0, w0⟩, turn⟩ := hr s.heap.objs.size hD
 have I2 : Inv X pins σ (upd H s.heap.objs.size (.lst [])) { s with heap := s.heap.push { cls := .type "list", dict := none, data := .seq ([] : List Value).toArray }, toks := s.toks } := I.lnew (its := []) .nil (Nat.zero_le _)
 generalize hH2 : s.heap.push { cls := .type "list", dict := none, data := .seq ([] : List Value).toArray } = H2 at hns₁ hsb₁ I2 ⊢
 have hsz : H2.objs.size = s.heap.objs.size + 1 := by rw [← hH2, Heap.size_push]
 generalize hs3 : ({ s with heap := H2, toks := s.toks } : Shared) = s3 at I2
 have hs3h : s3.heap = H2 := by rw [← hs3]
 have old : ∀ b o, s.heap.get? b = some o → H2.get? b = some o := fun b o e => by rw [← hH2]; exact Heap.get?_push_of_some _ e
 have old1 : ∀ b o, H2.get? b = some o → h₁.get? b = some o := fun b o e => hsb₁.extBut b o (Nat.ne_of_lt (Heap.lt_size e)) (Heap.get?_push_of_some _ e)
 have hfH : ∀ b ∈ fp, ∃ o, s.heap.get? b = some o ∧ ∀ v, o.data ≠ .cell v := T.obj 0 _ hst
 have ff : ∀ b ∈ fp, FpOk X pins (upd H s.heap.objs.size (.lst [])) b := fun b hb => by
  obtain ⟨f0, fr⟩ := hf b hb
  obtain ⟨o, ho, _⟩ := hfH b hb
  exact ⟨by rw [upd_ne (Nat.ne_of_lt (Heap.lt_size ho))]; exact f0, fr⟩
 have hns' : h₁.Ns s3.heap.objs.size (fun _ => none) := by
  rw [hs3h]
  simpa using hns₁
 have J0 : Inv (cxLC X scope cl N s3.heap.objs.size s3 (upd H s.heap.objs.size (.lst [])) fp (X.pn ++ pins)) [] (stLC σ k js) (upd H s.heap.objs.size (.lst [])) { s3 with heap := h₁, toks := s.toks + ([] : List (Str × Value)).length } :=
  I2.block (fp := fp) (tk := s.toks + ([] : List (Str × Value)).length) S hcl1 hcl2 hns' (fun b o e => old1 b o (by rw [← hs3h]; exact e)) ff (fun b hb => by
   obtain ⟨o, ho, hd⟩ := hfH b hb
   exact ⟨o, by rw [hs3h]; exact old b o ho, hd⟩)
 have es3 : ({ s3 with heap := h₁, toks := s.toks + ([] : List (Str × Value)).length } : Shared) = { s with heap := h₁, toks := s.toks + ([] : List (Str × Value)).length } := by rw [← hs3]
 rw [es3] at J0
 have hst1 : tn 0 h₁ := T.keep 0 _ _ hst fun b hb o e => old1 b o (old b o e)
 generalize hY : cxLC X scope cl N s3.heap.objs.size s3 (upd H s.heap.objs.size (.lst [])) fp (X.pn ++ pins) = Y at J0
 have eA : Y.A = X.A := by rw [← hY]; rfl
 have eP : Y.prog = X.prog := by rw [← hY]; rfl
 have eW : Y.w = X.w := by rw [← hY]; rfl
 have eK : Y.K = X.K := by rw [← hY]; rfl
 have eE : Y.env = compEnvC scope cl H2.objs.size X.env := by rw [← hY, ← hs3h]; rfl
 have eX : Y.xe = fun _ _ => False := by rw [← hY]; rfl
 have eC : Y.calm = true := by rw [← hY]; exact hc
 have stat : ∀ {H' : Hp}, (∀ b ∈ fp, H' b = none) → ∀ b ∈ fp, FpOk Y [] H' b := fun hn b hb => by
  obtain ⟨f0, f1, f2, f3, f4, f5⟩ := hf b hb
  obtain ⟨o, ho, _⟩ := hfH b hb
  refine ⟨hn b hb, ?_, ?_, .inl (by rw [← hY]; exact hb), fun x c h => ?_, fun p hp => ?_⟩
  ·rw [eE]
   exact Nat.ne_of_lt (Nat.lt_of_lt_of_le (Heap.lt_size ho) (by rw [hsz]; exact Nat.le_succ _))
  ·rw [← hY]
   intro z
   rcases List.mem_cons.mp (I.stkSub b z) with q | q
   ·exact f1 q
   ·exact f2 q
  ·rw [eE] at h
   exact f4 x c (hcl1 x c h)
  ·rw [← hY] at hp
   exact f5 p (by simpa [cxLC] using hp)
 have loop : ∀ s₂ : Shared, s₂ = { s with heap := h₁, toks := s.toks + ([] : List (Str × Value)).length } →
   codeAny (model X.prog X.w) X.A (.compLoop (.ListComp elt [⟨tg, iter, ifs, 0⟩] scope pos) 0 (.ref it) (.ref s.heap.objs.size) (compEnvC scope cl H2.objs.size X.env)) (RR (.ref s.heap.objs.size) H2.objs.size) s₂ := by
  rintro s₂ rfl
  have noE : ∀ (e : Value) (s' : Shared), False → notedBy (model X.prog X.w) X.A (compEnvC scope cl H2.objs.size X.env) (fun e s' => RR (.ref s.heap.objs.size) H2.objs.size (.error e) s') e s' := fun _ _ z => z.elim
  -- one turn, by hand: the step ahead of the store is the iterator's
  refine codeAny_loop rfl (fun n s' => ∃ i H' ys, Inv Y [] (stLC σ k js) H' s' ∧ tn i s'.heap ∧ (∀ b ∈ fp, H' b = none) ∧ W i n ys H') (fun n s5 hI => ?_) m0 ⟨0, _, [], J0, hst1, fun b hb => (ff b hb).1, w0⟩
  obtain ⟨i, H5, ys, I5, st5, fr5, w5⟩ := hI
  show wpAny _ X.A ((compTurn (.ListComp elt [⟨tg, iter, ifs, 0⟩] scope pos) 0 (.ref it) (.ref s.heap.objs.size) (compEnvC scope cl H2.objs.size X.env)).onRaise (fun x => do noteFrame x (compEnvC scope cl H2.objs.size X.env); theTreesLotGoes x)) _ _ s5
  refine wpAny_noted ?_
  rw [compTurn_list]
  refine wpAny_bind (wpAny_standAt (wpAny_bind ?_))
  obtain ⟨hDy, tr⟩ := turn i n ys H5 w5
  rcases tr with ⟨stop, q⟩ | ⟨go, hlen, NN, hN, step⟩
  ·have h6 := T.done Y eP eW eK eC i [] s5 _ H5 (fun _ _ => False) I5 (stat fr5) st5 stop
   rw [eA] at h6
   refine wpAny_mono h6 (fun r s6 h => ?_) noE
   obtain ⟨rfl, I6⟩ := h
   refine wpAny_pure ?_
   obtain ⟨m6, hn6, _⟩ := I6.loc
   rw [eE] at hn6
   have hu : Un (frs X.stack) fp (upd H s.heap.objs.size (.lst [])) H5 s3.heap s6.heap := by
    have := I6.base
    rw [← hY] at this
    exact this
   have hok6 : HOk X.prog X.w H5 s6.heap := by
    have := I6.hok
    rw [eP, eW] at this
    exact this
   have I7 : Inv X pins σ H5 s6 := I2.call' (ch := fp) (by have := I6.os; rw [← hY] at this; exact this) hu hok6 I6.bare fun b hb => by
    obtain ⟨f0, f1, f2, f3, f4, f5⟩ := hf b hb
    exact ⟨f3, f1, f4, f5⟩
   have hfree : H5 H2.objs.size = none := by
    have := I6.free
    rw [eE] at this
    exact this
   refine hend _ _ H5 s6 m6 I7 hn6 hfree ?_ ?_ ?_ ?_ ?_ ?_ q
   ·rw [← hs3h]; exact Nat.ne_of_gt I2.lt
   ·rw [← hs3h]
    intro z
    rcases List.mem_cons.mp (I2.stkSub _ z) with q | q
    ·exact absurd q (Nat.ne_of_gt I2.lt)
    ·exact I2.nofs (Nat.le_refl _) q
   ·rw [← hs3h]; exact I2.sz
   ·intro x c h z
    obtain ⟨v, hv⟩ := I2.cell x c h
    have := hv.lt
    rw [hs3h, z] at this
    exact absurd this (Nat.lt_irrefl _)
   ·intro p hp z
    have := Heap.lt_size (I2.pin p hp).1
    rw [hs3h, z] at this
    exact absurd this (Nat.lt_irrefl _)
   ·rw [hsz]; exact Nat.ne_of_lt (Nat.lt_succ_self _)
  ·have h6 := T.item Y eP eW eK eC i [] s5 _ H5 (fun _ _ => False) I5 (stat fr5) st5 go
   rw [eA] at h6
   refine wpAny_mono h6 (fun r s6 h => ?_) noE
   obtain ⟨u, rfl, h7⟩ := h
   refine wpAny_bind (wpAny_mono h7 (fun _ s7 h => ?_) noE)
   obtain ⟨x, H7, I7, rx, y7, st7, fr7⟩ := h
   have I7' := I7.pinned (stat fr7) (T.obj _ _ st7)
   have h8 := hg cl s3.heap.objs.size s3 (upd H s.heap.objs.size (.lst [])) fp (X.pn ++ pins)
   rw [hY] at h8
   have h8 := h8 _ s7 _ H7 x u _ I7' rx (step x H7 y7)
   rw [eP, eW, eA, eE, eX] at h8
   refine wpAny_bind (wpAny_mono h8 (fun _ s8 h => ?_) noE)
   obtain ⟨σ8, H8, I8, ⟨k1, k2⟩, q8⟩ := h
   have h9 := ht cl s3.heap.objs.size s3 (upd H s.heap.objs.size (.lst [])) fp (X.pn ++ pins)
   rw [hY] at h9
   have h9 := h9 _ s8 σ8 H8 _ I8 q8
   rw [eP, eW, eA, eE, eX] at h9
   refine wpAny_bind (wpAny_mono h9 (fun ok s9 h => ?_) noE)
   obtain ⟨H9, I9, q9⟩ := h
   have again : ∀ {H' : Hp} {ys' : List V} {s' : Shared}, Inv Y ([] ++ pinsAt fp s7.heap) σ8 H' s' → NN ys' H' → ∃ m, m < n ∧ ∃ i H' ys, Inv Y [] (stLC σ k js) H' s' ∧ tn i s'.heap ∧ (∀ b ∈ fp, H' b = none) ∧ W i m ys H' := fun {H' ys' s'} I' n' => by
    obtain ⟨m', hm, w'⟩ := hN ys' H' n'
    refine ⟨m', hm, i + 1, H', ys', (I'.unpinned).weak (by unfold stLC frV; rw [k2]; simp) (fun j v h => lc_keep k1 k2 j v h), T.keep _ _ _ st7 fun b hb o e => (I'.pin (b, o) (List.mem_append_right _ (List.mem_append_right _ (mem_pinsAt hb e)))).1, fun b hb => ?_, w'⟩
    obtain ⟨o, e, d⟩ := T.obj _ _ st7 b hb
    exact (I'.pin (b, o) (List.mem_append_right _ (List.mem_append_right _ (mem_pinsAt hb e)))).2.1
   cases ok with
   | false =>
    rw [if_neg Bool.false_ne_true] at q9
    exact wpAny_pure ⟨rfl, again I9 q9⟩
   | true =>
    rw [if_pos rfl] at q9
    have h10 := he cl s3.heap.objs.size s3 (upd H s.heap.objs.size (.lst [])) fp (X.pn ++ pins)
    rw [hY] at h10
    have h10 := h10 _ s9 σ8 H9 _ I9 q9
    rw [eP, eW, eA, eE, eX] at h10
    refine wpAny_bind (wpAny_bind (wpAny_mono h10 (fun y s10 h => ?_) noE))
    obtain ⟨yv, H10, I10, ry, e10, n10⟩ := h
    have h11 := mt_append (X := Y) _ s10 σ8 H10 (.ref s.heap.objs.size) [yv] (.ref s.heap.objs.size) [y] (fun _ H' => NN (ys ++ [yv]) H') I10 rfl (.cons ry .nil) ⟨_, ys, yv, rfl, rfl, e10, hlen, n10⟩
    rw [eP, eW, eA, eX] at h11
    refine wpAny_bind (wpAny_mono h11 (fun _ s11 h => ?_) noE)
    obtain ⟨_, H11, I11, _, n11⟩ := h
    exact wpAny_pure (wpAny_pure ⟨rfl, again I11 n11⟩)
 exact codeAny_compStart_list (loop _ rfl) (T.self X.A 0 _ _ _ hst1 (loop _ rfl))
end
end L2
namespace L2
open PySem PySem.Spec PyProof.Rows
section
variable {X : Cx} {scope : Scope} {N : List Str} {k : Nat} {js : List Nat} {elt iter tg : Expr} {ifs : List Expr} {pos : Pos} {wi : TI} {g : TG} {tt : TT} {te : TE}
theorem CScope.closure {pins : List (Addr × Obj)} {σ : St} {H : Hp} {s : Shared} (S : CScope X scope N k js) (I : Inv X pins σ H s) :
  ∃ cl, closureFor scope X.env = pure cl ∧ (∀ x c, cl.lookup x = some c → X.env.cells.lookup x = some c) ∧ (∀ y ∈ scope.names, y.2 = .free → ∃ c, cl.lookup y.1 = some c) :=
 closureFor_ok fun y hy hf => I.ok.has y.1 (S.frees y hy hf)
theorem pe_lc (S : CScope X scope N k js) (hc : X.calm = true) (hi : PI X tg iter wi)
  (hg : ∀ cl C s H ex pn, PG (cxLC X scope cl N C s H ex pn) tg g) (ht : ∀ cl C s H ex pn, PIfs (cxLC X scope cl N C s H ex pn) ifs tt) (he : ∀ cl C s H ex pn, PE (cxLC X scope cl N C s H ex pn) elt te)
  (hs : ∀ x, foldedSetIterable iter X.env x = pure x := by intro _; rfl) : PE X (.ListComp elt [⟨tg, iter, ifs, 0⟩] scope pos) (tLC wi k js g tt te) := by
 intro pins s σ H Q I h
 obtain ⟨cl, hclos, hcl1, hcl2⟩ := S.closure I
 rw [eval_ListComp]
 refine wpAny_comprehension_free (use := none) rfl hs hclos S.kind S.names (thn (hi pins s σ H _ I h) fun v s1 h1 => thn h1 fun itv s2 h2 => ?_)
 obtain ⟨it, fp, tn, J, H2, rfl, I2, T, st2, f2, hr⟩ := h2
 refine lc_block (Q := Q) (RR := fun acc C => compPost (model X.prog X.w) X.A X.xe none (EP X pins σ Q) acc C) S hc hg ht he hcl1 hcl2 I2 T st2 f2 hr ?_
 intro D C H' s' m I' hn h0 hL hF hz hcell hpin hDC q
 refine ⟨m, hn, fun h' sb => ⟨.ref D, H', ?_, rfl, q⟩⟩
 exact I'.turned (t' := s'.toks) (fun b o hb e => (sb.2 b hb).trans e) h0 hL (.inr hz) hcell hpin
end
end L2
namespace L2
open PySem PySem.Spec PyProof.Rows
section
variable {X : Cx} {scope : Scope} {N : List Str} {k : Nat} {js : List Nat} {elt iter tg : Expr} {ifs : List Expr} {pos : Pos} {wi : TI} {g : TG} {tt : TT} {te : TE}
theorem ps_lc {i : Nat} {y : Str} {py spos : Pos} (S : CScope X scope N k js) (hc : X.calm = true) (hi : PI X tg iter wi)
  (hg : ∀ cl C s H ex pn, PG (cxLC X scope cl N C s H ex pn) tg g) (ht : ∀ cl C s H ex pn, PIfs (cxLC X scope cl N C s H ex pn) ifs tt) (he : ∀ cl C s H ex pn, PE (cxLC X scope cl N C s H ex pn) elt te)
  (hN : X.N.Nodup) (hix : X.N[i]? = some y) (hy : X.env.scope.names.lookup y = some .local)
  (hsw : swapsWith (.ListComp elt [⟨tg, iter, ifs, 0⟩] scope pos) (some (.Name y py)) spos.line X.env = pure true := by rfl)
  (hs : ∀ x, foldedSetIterable iter X.env x = pure x := by intro _; rfl) : PS X (.Assign [.Name y py] (.ListComp elt [⟨tg, iter, ifs, 0⟩] scope pos) spos) (tAsg (tLC wi k js g tt te) (gName i)) := by
 intro pins s σ H D0 I h
 obtain ⟨cl, hclos, hcl1, hcl2⟩ := S.closure I
 rw [exec_Assign_Name_used _ _ _ _ hsw]
 refine wpAny_bind (wpAny_standAt (wpAny_bind ?_))
 show wpAny _ X.A (do let _ ← comprehension (.ListComp elt [⟨tg, iter, ifs, 0⟩] scope pos) scope X.env _ (newList []) false (eval iter X.env) (some (assign (.Name y py) X.env))) _ _ s
 refine wpAny_bind (wpAny_mono (wpAny_comprehension_free (use := some (assign (.Name y py) X.env)) (Q := fun _ s' => SP X pins D0 .next s') rfl hs hclos S.kind S.names
  (thn (hi pins s σ H _ I h) fun v s1 h1 => thn h1 fun itv s2 h2 => ?_)) (fun _ s' hq => wpAny_pure (wpAny_pure hq)) fun _ _ e => e)
 obtain ⟨it, fp, tn, J, H2, rfl, I2, T, st2, f2, hr⟩ := h2
 refine lc_block (Q := fun v H' => D0.nx (σ.set i (some v)) H') (RR := fun acc C => compPost (model X.prog X.w) X.A X.xe (some (assign (.Name y py) X.env)) (fun _ s' => SP X pins D0 .next s') acc C) S hc hg ht he hcl1 hcl2 I2 T st2 f2 hr ?_
 intro D C H' s' m I' hn h0 hL hF hz hcell hpin hDC q
 show wpAny _ X.A (assign (.Name y py) X.env (.ref D)) _ _ _
 refine wpAny_assign_Name (store_ok2 I' hN hix (.inl hy) (v := .ref D) rfl (fun s'' I'' hsb => ?_) (.inr hy))
 obtain ⟨a, sb, ha⟩ := hsb
 have haC : C ≠ a := by
  rcases ha with rfl | ha
  ·exact hL
  ·exact fun z => hcell y a ha z.symm
 refine ⟨m, hn.sameBut sb haC, fun h' sb' => ⟨σ.set i (some (.ref D)), H', ?_, q⟩⟩
 exact I''.turned (t' := s''.toks) (fun b o hb e => (sb'.2 b hb).trans e) h0 hL (.inr hz) hcell hpin
end
end L2
set_option Elab.async false
set_option linter.all false
set_option maxRecDepth 100000
namespace L2
open PySem PySem.Spec PyProof.Rows
section
variable {X : Cx}
noncomputable def rIsi (K : PySem.W.Frag) : List V → Hp → VK → Prop := fun xs H Q => ∃ x T t b, xs = [x, .ty T] ∧ TyOf K H x t ∧ PySem.W.kitOne K t (.type T) = some b ∧ Q (.bl b) H
theorem call_isi : CallR X (.builtin "isinstance") (rIsi X.K) := by
 intro pins s σ H xs us Q I r h
 obtain ⟨x, T, t, b, rfl, ty, e, q⟩ := h
 obtain ⟨u, v, rfl, ru, rv⟩ := r.two
 obtain rfl : v = Value.type T := rv
 exact isinst_ok I ru ty e fun tk => ⟨.bl b, H, I.tok tk, rfl, q⟩
theorem isi_int_int (K : PySem.W.Frag) : PySem.W.kitOne K (.type "int") (.type "int") = some true := rfl
theorem isi_int_bool (K : PySem.W.Frag) : PySem.W.kitOne K (.type "int") (.type "bool") = some false := by
 kernel_rfl
theorem isi_bool_int (K : PySem.W.Frag) : PySem.W.kitOne K (.type "bool") (.type "int") = some true := by
 kernel_rfl
theorem isi_bool_bool (K : PySem.W.Frag) : PySem.W.kitOne K (.type "bool") (.type "bool") = some true := rfl
theorem isi_tup_tup (K : PySem.W.Frag) : PySem.W.kitOne K (.type "tuple") (.type "tuple") = some true := rfl
theorem isi_lst_lst (K : PySem.W.Frag) : PySem.W.kitOne K (.type "list") (.type "list") = some true := rfl
theorem isi_lst_tup (K : PySem.W.Frag) : PySem.W.kitOne K (.type "list") (.type "tuple") = some false := by
 kernel_rfl
theorem vals_bl : ∀ {bs : List Bool} {us : List Value}, Vals (bs.map V.bl) us → us = bs.map Value.bool
 | [], _, .nil => rfl
 | b :: r, _, .cons h t => by
  rw [show _ = Value.bool b from h, vals_bl t]
  rfl
theorem truth_bl {prog : Program} {w : World} {A : Around} (bs : List Bool) : TruthOf prog w A (fun i v => (bs.map Value.bool).toArray[i]? = some v) (fun i => bs.getD i false) := by
 intro i v s Q E hP hQ
 have hP' : (bs.map Value.bool)[i]? = some v := by simpa using hP
 rw [List.getElem?_map] at hP'
 cases e : bs[i]? with
 | none => rw [e] at hP'; cases hP'
 | some b =>
  rw [e] at hP'
  have : v = Value.bool b := (Option.some.inj hP').symm
  subst this
  refine wpAny_truthy_bool ?_
  have hb : bs.getD i false = b := by simp [List.getD, e]
  have hQ' : Q (bs.getD i false) s := hQ
  rw [hb] at hQ'
  exact hQ'
theorem any_range (bs : List Bool) : (List.range bs.length).any (fun i => bs.getD i false) = bs.any id := by
 rw [Bool.eq_iff_iff, List.any_eq_true, List.any_eq_true]
 constructor
 ·rintro ⟨i, hi, h⟩
  have hi' : i < bs.length := by simpa using hi
  exact ⟨bs[i], List.getElem_mem hi', by simpa [List.getD, hi'] using h⟩
 ·rintro ⟨x, hx, h⟩
  obtain ⟨i, hi, rfl⟩ := List.mem_iff_getElem.mp hx
  exact ⟨i, by simpa using hi, by simpa [List.getD, hi] using h⟩
noncomputable def rAllB (K : PySem.W.Frag) (f : List Bool → Bool) : List V → Hp → VK → Prop := fun xs H Q => ∃ p bs, xs = [.ref p] ∧ SqL K H p (bs.map V.bl) ∧ Q (.bl (f bs)) H
theorem call_any (hc : X.calm = true) : CallR X (.builtin "any") (rAllB X.K fun bs => bs.any id) := by
 intro pins s σ H xs us Q I r h
 obtain ⟨p, bs, rfl, hq, q⟩ := h
 obtain ⟨u, rfl, ru⟩ := r.one
 obtain rfl : u = Value.ref p := ru
 obtain ⟨its, rv, hl, hz⟩ := I.list hq
 have e := vals_bl rv
 subst e
 obtain ⟨o, ho, _⟩ := id hl.isList
 refine call_any_walk (wpAny_pyIter_list hl.isList ?_)
 refine ⟨_, _, _, _, _, _, _, rfl, Walks.list (A := X.A.in1) (I.ok.hd hc) _ p (Nat.ne_of_lt (Heap.lt_size ho)) _, ⟨⟨_, Heap.get?_push_size _ rfl, rfl, rfl⟩, hl.isList.at fun o e => Heap.get?_push_of_some _ e⟩, truth_bl bs, fun h' tk hk => ?_⟩
 have ea : (List.range (bs.map Value.bool).toArray.size).any (fun i => bs.getD i false) = bs.any id := by
  rw [List.size_toArray, List.length_map]
  exact any_range bs
 rw [ea]
 exact ⟨.bl _, H, I.kept (t' := tk) fun b o e => hk b o (fun z => by
  have z' : b = s.heap.objs.size := by simpa using z
  exact absurd (Heap.lt_size e) (by rw [z']; exact Nat.lt_irrefl _)) (Heap.get?_push_of_some _ e), rfl, q⟩
end
mutual
inductive Rdy (K : PySem.W.Frag) (H : Hp) : V → PyData → Prop
 | non : Rdy K H .non .none
 | bl (b : Bool) : Rdy K H (.bl b) (.bool b)
 | int (i : Int) : Rdy K H (.int i) (.int i)
 | str (x : Str) : Rdy K H (.str x) (.str x)
 | tup {a : Addr} {xs : List V} {ds : List PyData} : SqT K H a xs → RdyAll K H xs ds → Rdy K H (.ref a) (.tuple ds)
 | lst {a : Addr} {xs : List V} {ds : List PyData} : SqL K H a xs → RdyAll K H xs ds → Rdy K H (.ref a) (.list ds)
inductive RdyAll (K : PySem.W.Frag) (H : Hp) : List V → List PyData → Prop
 | nil : RdyAll K H [] []
 | cons {x : V} {xs : List V} {d : PyData} {ds : List PyData} : Rdy K H x d → RdyAll K H xs ds → RdyAll K H (x :: xs) (d :: ds)
end
section
variable {X : Cx} {pins : List (Addr × Obj)} {σ : St} {H : Hp} {s : Shared}
mutual
theorem Rdy.reads (I : Inv X pins σ H s) : ∀ {x : V} {d : PyData}, Rdy X.K H x d → ∀ {u : Value}, RelV x u → ∃ as, Reads s.heap u d as
 | _, _, .non, u, r => by cases (show u = Value.none from r); exact ⟨_, .none⟩
 | _, _, .bl b, u, r => by cases (show u = Value.bool b from r); exact ⟨_, .bool b⟩
 | _, _, .int i, u, r => by obtain ⟨t, rfl⟩ := (show ∃ t, u = Value.int i t from r); exact ⟨_, .int i t⟩
 | _, _, .str x, u, r => by obtain ⟨t, rfl⟩ := (show ∃ t, u = Value.str x t from r); exact ⟨_, .str x t⟩
 | _, _, @Rdy.tup _ _ a xs ds hq ha, u, r => by
  cases (show u = Value.ref a from r)
  obtain ⟨its, rv, ⟨o, ho, hc, n, hd⟩, hz⟩ := I.tuple hq
  obtain ⟨as, ra⟩ := RdyAll.reads I ha rv
  exact ⟨_, .tuple ho hc hd (by simpa using ra)⟩
 | _, _, @Rdy.lst _ _ a xs ds hq ha, u, r => by
  cases (show u = Value.ref a from r)
  obtain ⟨its, rv, ⟨o, n, ho, hc, _, hd⟩, hz⟩ := I.list hq
  obtain ⟨as, ra⟩ := RdyAll.reads I ha rv
  exact ⟨_, .list ho hc hd (by simpa using ra)⟩
theorem RdyAll.reads (I : Inv X pins σ H s) : ∀ {xs : List V} {ds : List PyData}, RdyAll X.K H xs ds → ∀ {us : List Value}, Vals xs us → ∃ as, ReadsAll s.heap us ds as
 | _, _, .nil, _, .nil => ⟨_, .nil⟩
 | _, _, .cons h t, _, .cons r rs => by
  obtain ⟨as, h1⟩ := Rdy.reads I h r
  obtain ⟨bs, h2⟩ := RdyAll.reads I t rs
  exact ⟨_, .cons h1 h2⟩
end
end
section
variable {X : Cx}
open PySem.SeqAt in
noncomputable def rEqD (K : PySem.W.Frag) (f : Bool → Bool) : R2 := fun x y H Q => ∃ d e, Rdy K H x d ∧ Rdy K H y e ∧ shaped d = true ∧ shaped e = true ∧ Q (.bl (f (PyData.eqv d e))) H
theorem op_eqD (hu : X.A.units + 64 < cLine) : OpR X (compareOp .Eq) (rEqD X.K id) := by
 intro pins s σ H x y v u Q I rx ry h
 obtain ⟨d, e, hd, he, sd, se, q⟩ := h
 obtain ⟨as, ra⟩ := hd.reads I rx
 obtain ⟨bs, rb⟩ := he.reads I ry
 exact eq_dataH ra rb sd se hu ⟨.bl _, H, I, rfl, q⟩
theorem op_neD (hu : X.A.units + 64 < cLine) : OpR X (compareOp .NotEq) (rEqD X.K not) := by
 intro pins s σ H x y v u Q I rx ry h
 obtain ⟨d, e, hd, he, sd, se, q⟩ := h
 obtain ⟨as, ra⟩ := hd.reads I rx
 obtain ⟨bs, rb⟩ := he.reads I ry
 exact ne_dataH ra rb sd se hu ⟨.bl _, H, I, rfl, q⟩
end
noncomputable def Ext (H H' : Hp) : Prop := ∀ b o, H b = some o → H' b = some o
theorem Ext.refl (H : Hp) : Ext H H := fun _ _ h => h
theorem Ext.trans {H H1 H2 : Hp} (a : Ext H H1) (b : Ext H1 H2) : Ext H H2 := fun c o h => b c o (a c o h)
theorem Ext.upd {H : Hp} {p : Addr} {o : HO} (h : H p = none) : Ext H (upd H p o) := fun b u e => by rw [upd_ne (ne_of_none e h)]; exact e
theorem Ext.then {H H1 : Hp} {p : Addr} {o : HO} (a : Ext H H1) (h : H1 p = none) : Ext H (L2.upd H1 p o) := a.trans (Ext.upd h)
theorem Ext.none {H H' : Hp} (e : Ext H H') {l : Addr} (h : H' l = .none) : H l = .none := by
 cases q : H l with
 | none => rfl
 | some o => rw [e l o q] at h; cases h
theorem Ext.sqT {K : PySem.W.Frag} {H H' : Hp} {a : Addr} {xs : List V} (e : Ext H H') (h : SqT K H a xs) : SqT K H' a xs := by
 rcases h with (h | ⟨o, h⟩) | h
 ·exact .inl (.inl (e _ _ h))
 ·exact .inl (.inr ⟨o, e _ _ h⟩)
 ·exact .inr h
theorem Ext.sqL {K : PySem.W.Frag} {H H' : Hp} {a : Addr} {xs : List V} (e : Ext H H') (h : SqL K H a xs) : SqL K H' a xs := by
 rcases h with (h | ⟨o, h⟩) | h
 ·exact .inl (.inl (e _ _ h))
 ·exact .inl (.inr ⟨o, e _ _ h⟩)
 ·exact .inr h
mutual
theorem Rdy.ext {K : PySem.W.Frag} {H H' : Hp} (e : Ext H H') : ∀ {x : V} {d : PyData}, Rdy K H x d → Rdy K H' x d
 | _, _, .non => .non
 | _, _, .bl b => .bl b
 | _, _, .int b => .int b
 | _, _, .str b => .str b
 | _, _, .tup h t => .tup (e.sqT h) (RdyAll.ext e t)
 | _, _, .lst h t => .lst (e.sqL h) (RdyAll.ext e t)
theorem RdyAll.ext {K : PySem.W.Frag} {H H' : Hp} (e : Ext H H') : ∀ {xs : List V} {ds : List PyData}, RdyAll K H xs ds → RdyAll K H' xs ds
 | _, _, .nil => .nil
 | _, _, .cons h t => .cons (Rdy.ext e h) (RdyAll.ext e t)
end
end L2
set_option Elab.async false
set_option linter.all false
set_option maxRecDepth 100000
namespace L2
open PySem PySem.Spec PyProof.Rows
structure FnB (P : Program) (w : World) (K : PySem.W.Frag) (mg : Str → Option Value) (base : Heap) (CX : CXT) (k : Nat) (x : Str) (ps : List Str) (sp : Sp) : Prop where
 ex : ∃ f fd, FnOk P w K mg base CX k f fd ps sp ∧ mg x = some (.ref f) ∧ PySem.W.keepIn K (.ref f) = true ∧ Binds K fd ps []
section
variable {X : Cx} {CX : CXT} {k : Nat} {ps : List Str} {sp : Sp} {E : XK} {x : Str} {p pos : Pos} {e : Expr} {es : List Expr} {t : TA}
theorem pe_fn (F : FnB X.prog X.w X.K X.mg X.base CX k x ps sp) (hr : Room k X.A) (hg : Gl X x) (hx : Passes CX X E)
  (ha : PA X (e :: es) t) (hdb : (x == ("__debug__" : Str)) = false := by decide) (he : starEach (e :: es) X.env = (false, eval e X.env) :: starEach es X.env := by rfl) (hpl : (backTo pos (starEach es X.env)).any (·.1) = false := by rfl) :
  PE X (.Call (.Name x p) (e :: es) [] pos) (tCall sp [] E t) := by
 obtain ⟨f, fd, h1, h2, h3, h4⟩ := F.ex
 exact pe_call h1 hr hg h2 h3 h4 .nil hx ha hdb he hpl
end
theorem FnB.of {P : Program} {w : World} {K : PySem.W.Frag} {mg : Str → Option Value} {base : Heap} {CX : CXT} {k : Nat} {x : Str} {ps : List Str} {sp : Sp} {f : Addr} {fd : FuncData} (h : FnOk P w K mg base CX k f fd ps sp) (m : mg x = some (.ref f)) (kp : PySem.W.keepIn K (.ref f) = true) (b : Binds K fd ps []) : FnB P w K mg base CX k x ps sp := ⟨f, fd, h, m, kp, b⟩
noncomputable def optK {α : Type} (o : Option α) (k : α → Prop) : Prop := match o with | some v => k v | none => False
noncomputable def seqOf (o : Option HO) : Option (List V) := match o with
 | some (.lst xs) => some xs
 | some (.tup xs) => some xs
 | _ => none
theorem seqOf_l (xs : List V) : seqOf (some (.lst xs)) = some xs := rfl
theorem seqOf_t (xs : List V) : seqOf (some (.tup xs)) = some xs := rfl
noncomputable def ixF : R2 := fun x y H Q => match x, y with
 | .ref p, .int i => optK (seqOf (H p)) fun xs => optK (atI xs i) fun v => Q v H
 | _, _ => False
theorem ix_F {X : Cx} : IxR X ixF := by
 intro value slice pins s σ H x y v u Q I rx ry q hs
 unfold ixF at q
 split at q
 ·rename_i p i
  cases e : H p with
  | none => rw [e] at q; exact q.elim
  | some o =>
   rw [e] at q
   cases o with
   | lst xs =>
    have q : optK (atI xs i) fun v => Q v H := q
    unfold optK at q
    split at q
    ·rename_i w hw
     exact ix_list value slice pins s σ H _ _ v u Q I rx ry ⟨p, xs, i, w, rfl, rfl, SqL.of e, hw, q⟩ hs
    ·exact q.elim
   | tup xs =>
    have q : optK (atI xs i) fun v => Q v H := q
    unfold optK at q
    split at q
    ·rename_i w hw
     exact ix_tup value slice pins s σ H _ _ v u Q I rx ry ⟨p, xs, i, w, rfl, rfl, SqT.of e, hw, q⟩ hs
    ·exact q.elim
   | _ => exact q.elim
 ·exact q.elim
theorem atI_0 {α : Type} (a : α) (l : List α) : atI (a :: l) 0 = some a := atI_nat (j := 0) rfl
theorem atI_1 {α : Type} (a b : α) (l : List α) : atI (a :: b :: l) 1 = some b := atI_nat (j := 1) rfl
theorem atI_2 {α : Type} (a b c : α) (l : List α) : atI (a :: b :: c :: l) 2 = some c := atI_nat (j := 2) rfl
theorem atI_3 {α : Type} (a b c d : α) (l : List α) : atI (a :: b :: c :: d :: l) 3 = some d := atI_nat (j := 3) rfl
theorem optK_some {α : Type} (a : α) (k : α → Prop) : optK (some a) k = k a := rfl
noncomputable def setF : V → V → V → Hp → (Hp → Prop) → Prop := fun o i v H Q => match o, i with
 | .ref p, .int k => (match H p with
  | some (.lst xs) => optK (ixN xs.length k) fun j => Q (upd H p (.lst (xs.set j v)))
  | _ => False)
 | _, _ => False
noncomputable def cscOk (dsc scope : Scope) (N0 N : List Str) (k : Nat) (js : List Nat) : Bool :=
 scope.kind == .function && scope.names.all (fun y => y.2 != .cell) && scope.names.all (fun y => y.2 != .local || scope.names.lookup y.1 == some .local) &&
 scope.names.all (fun y => y.2 != .free || dsc.names.lookup y.1 == some .cell || dsc.names.lookup y.1 == some .free) && N.length == k + js.length &&
 (List.range js.length).all (fun i => match js[i]? with | some j => (match N[k + i]? with | some x => N0[j]? == some x && scope.names.lookup x == some .free | none => false) | none => false)
theorem CScope.of_ok {X : Cx} {dsc scope : Scope} {N0 N : List Str} {k : Nat} {js : List Nat} (e : X.env.scope = dsc) (n : X.N = N0) (h : cscOk dsc scope N0 N k js = true) : CScope X scope N k js := by
 subst e n
 unfold cscOk at h
 simp only [Bool.and_eq_true, List.all_eq_true] at h
 obtain ⟨⟨⟨⟨⟨h1, h2⟩, h3⟩, h4⟩, h5⟩, h6⟩ := h
 refine ⟨by simpa using h1, fun y hy => by simpa using h2 y hy, fun y hy hl => ?_, fun y hy hl => ?_, by simpa using h5, fun i j hj => ?_⟩
 ·have := h3 y hy
  simpa [hl] using this
 ·have := h4 y hy
  simp only [hl, bne_self_eq_false, Bool.false_or, Bool.or_eq_true, beq_iff_eq] at this
  exact this
 ·have hi : i < js.length := (List.getElem?_eq_some_iff.mp hj).1
  have := h6 i (by simpa using hi)
  rw [hj] at this
  dsimp only at this
  cases q : N[k + i]? with
  | none => rw [q] at this; cases this
  | some x =>
   rw [q] at this
   simp only [Bool.and_eq_true, beq_iff_eq] at this
   exact ⟨x, rfl, this.1, this.2⟩
theorem lc_range {lo : Int} {n : Nat} {g : TG} {tt : TT} {te : TE} {k : Nat} {js : List Nat} {σ : St} {D : Addr} {Q : VK} {H : Hp} (Pv : Nat → List V → Hp → Prop) (h0 : Pv 0 [] (upd H D (.lst [])))
  (hn : n < sizeLine) (hl : ∀ i ys H, i ≤ n → Pv i ys H → H D = some (.lst ys) ∧ ys.length ≤ i)
  (hs : ∀ i ys H, i < n → Pv i ys H → g (.int (lo + i)) (stLC σ k js) H fun σ2 H2 => (σ2.drop k = frV σ js ∧ σ2.length = k + js.length) ∧ tt σ2 H2 fun b H3 => if b = true then te σ2 H3 fun y H4 => H4 D = some (.lst ys) ∧ Pv (i + 1) (ys ++ [y]) (upd H4 D (.lst (ys ++ [y]))) else Pv (i + 1) ys H3)
  (hd : ∀ ys H, Pv n ys H → Q (.ref D) H) :
  ∃ W : Nat → Nat → List V → Hp → Prop, (∃ m, W 0 m [] (upd H D (.lst []))) ∧ ∀ i m ys H, W i m ys H → H D = some (.lst ys) ∧
  (((Itr lo n).stop i H ∧ Q (.ref D) H) ∨ ((Itr lo n).go i H ∧ ys.length < sizeLine ∧ ∃ N : List V → Hp → Prop, (∀ ys' H', N ys' H' → ∃ m', m' < m ∧ W (i + 1) m' ys' H') ∧
   ∀ x H', (Itr lo n).yld i H x H' → g x (stLC σ k js) H' fun σ2 H2 => (σ2.drop k = frV σ js ∧ σ2.length = k + js.length) ∧ tt σ2 H2 fun b H3 => if b = true then te σ2 H3 fun y H4 => H4 D = some (.lst ys) ∧ N (ys ++ [y]) (upd H4 D (.lst (ys ++ [y]))) else N ys H3)) := by
 refine ⟨fun i m ys H => m = n - i ∧ i ≤ n ∧ Pv i ys H, ⟨n, by simp, Nat.zero_le _, h0⟩, ?_⟩
 rintro i m ys H ⟨rfl, hi, p⟩
 obtain ⟨e1, e2⟩ := hl i ys H hi p
 refine ⟨e1, ?_⟩
 by_cases hlt : i < n
 ·refine .inr ⟨hlt, by omega, Pv (i + 1), fun ys' H' p' => ⟨n - (i + 1), by omega, rfl, hlt, p'⟩, fun x H' y => ?_⟩
  obtain ⟨e, y⟩ := y
  subst e y
  exact hs i ys _ hlt p
 ·have e : i = n := by omega
  subst e
  exact .inl ⟨Nat.le_refl _, hd ys H p⟩
theorem lc_list {K : PySem.W.Frag} {a : Addr} {xs : List V} {g : TG} {tt : TT} {te : TE} {k : Nat} {js : List Nat} {σ : St} {D : Addr} {Q : VK} {H : Hp} (Pv : Nat → List V → Hp → Prop) (h0 : Pv 0 [] (upd H D (.lst [])))
  (hn : xs.length < sizeLine) (hl : ∀ i ys H, i ≤ xs.length → Pv i ys H → H D = some (.lst ys) ∧ ys.length ≤ i ∧ SqL K H a xs)
  (hs : ∀ i x ys H, xs[i]? = some x → Pv i ys H → g x (stLC σ k js) H fun σ2 H2 => (σ2.drop k = frV σ js ∧ σ2.length = k + js.length) ∧ tt σ2 H2 fun b H3 => if b = true then te σ2 H3 fun y H4 => H4 D = some (.lst ys) ∧ Pv (i + 1) (ys ++ [y]) (upd H4 D (.lst (ys ++ [y]))) else Pv (i + 1) ys H3)
  (hd : ∀ ys H, Pv xs.length ys H → Q (.ref D) H) :
  ∃ W : Nat → Nat → List V → Hp → Prop, (∃ m, W 0 m [] (upd H D (.lst []))) ∧ ∀ i m ys H, W i m ys H → H D = some (.lst ys) ∧
  (((Itl K a).stop i H ∧ Q (.ref D) H) ∨ ((Itl K a).go i H ∧ ys.length < sizeLine ∧ ∃ N : List V → Hp → Prop, (∀ ys' H', N ys' H' → ∃ m', m' < m ∧ W (i + 1) m' ys' H') ∧
   ∀ x H', (Itl K a).yld i H x H' → g x (stLC σ k js) H' fun σ2 H2 => (σ2.drop k = frV σ js ∧ σ2.length = k + js.length) ∧ tt σ2 H2 fun b H3 => if b = true then te σ2 H3 fun y H4 => H4 D = some (.lst ys) ∧ N (ys ++ [y]) (upd H4 D (.lst (ys ++ [y]))) else N ys H3)) := by
 refine ⟨fun i m ys H => m = xs.length - i ∧ i ≤ xs.length ∧ Pv i ys H, ⟨xs.length, by simp, Nat.zero_le _, h0⟩, ?_⟩
 rintro i m ys H ⟨rfl, hi, p⟩
 obtain ⟨e1, e2, q⟩ := hl i ys H hi p
 refine ⟨e1, ?_⟩
 by_cases hlt : i < xs.length
 ·refine .inr ⟨⟨xs, xs[i], q, by simp [hlt]⟩, by omega, Pv (i + 1), fun ys' H' p' => ⟨xs.length - (i + 1), by omega, rfl, hlt, p'⟩, fun x H' y => ?_⟩
  obtain ⟨e, y⟩ := y
  subst e
  exact hs i x ys _ (y xs q) p
 ·have e : i = xs.length := by omega
  subst e
  exact .inl ⟨⟨xs, q, Nat.le_refl _⟩, hd ys H p⟩
end L2
namespace L2
open PySem PySem.Spec PyProof.Rows
section
variable {X : Cx} {st : Stmt} {rest : List Stmt} {t u : TS}
noncomputable def tCut (t u : TS) : TS := fun D σ H => ∃ Pv : St → Hp → Prop, t { D with nx := Pv } σ H ∧ ∀ σ H, Pv σ H → u D σ H
theorem pss_cut (h1 : PS X st t) (h2 : PSs X rest u) : PSs X (st :: rest) (tCut t u) := by
 intro pins s σ H D I h
 obtain ⟨Pv, ha, hb⟩ := h
 refine wpAny_execs_cons (thn (h1 pins s σ H { D with nx := Pv } I ha) fun f s1 q => ?_)
 cases f with
 | next =>
  obtain ⟨σ', H', I', q⟩ := q
  exact h2 pins s1 σ' H' D I' (hb σ' H' q)
 | ret v => exact q
 | brk => exact q
 | cont => exact q
end
theorem CMulA.of {m n : Nat} {i j : Int} (h : Bd m i) (k : Bd n j) (hm : m ≤ 100000) (hn : n ≤ 100000) : CMulA i j := .inr ⟨h.mono hm, k.mono hn⟩
theorem CMulA.left {i j : Int} (h1 : -(2 ^ 64) < i) (h2 : i < 2 ^ 64) : CMulA i j := .inl (.inl ⟨h1, h2⟩)
theorem CMulA.right {i j : Int} (h1 : -(2 ^ 64) < j) (h2 : j < 2 ^ 64) : CMulA i j := .inl (.inr ⟨h1, h2⟩)
theorem atI_four {a b c d r : Int} (Pr : Int → Prop) (ha : Pr a) (hb : Pr b) (hc : Pr c) (hd : Pr d) (h0 : 0 ≤ r) (h4 : r < 4) : ∃ x, atI [V.int a, V.int b, V.int c, V.int d] r = some (.int x) ∧ Pr x := by
 have : r = 0 ∨ r = 1 ∨ r = 2 ∨ r = 3 := by omega
 rcases this with rfl | rfl | rfl | rfl
 ·exact ⟨a, rfl, ha⟩
 ·exact ⟨b, rfl, hb⟩
 ·exact ⟨c, rfl, hc⟩
 ·exact ⟨d, rfl, hd⟩
noncomputable def Feed (H : Hp) (p : Addr) : Prop := ∃ a b c : Int, H p = some (.lst [.int a, .int b, .int c])
structure FX (p : Addr) (H H' : Hp) : Prop where
 feed : Feed H' p
 keep : ∀ b o, b ≠ p → H b = some o → H' b = some o
theorem FX.trans {p : Addr} {H H1 H2 : Hp} (a : FX p H H1) (b : FX p H1 H2) : FX p H H2 := ⟨b.feed, fun c o hc h => b.keep c o hc (a.keep c o hc h)⟩
theorem FX.refl {p : Addr} {H : Hp} (h : Feed H p) : FX p H H := ⟨h, fun _ _ _ h => h⟩
theorem FX.upd {p q : Addr} {H H1 : Hp} {o : HO} (a : FX p H H1) (h : H1 q = none) : FX p H (L2.upd H1 q o) := by
 obtain ⟨x, y, z, e⟩ := a.feed
 exact ⟨⟨x, y, z, by rw [upd_ne (ne_of_none e h)]; exact e⟩, fun b u hb hu => by rw [upd_ne (ne_of_none (a.keep b u hb hu) h)]; exact a.keep b u hb hu⟩
theorem FX.set {p q : Addr} {H H1 : Hp} {o : HO} (a : FX p H H1) (hn : H q = none) (hq : q ≠ p) : FX p H (L2.upd H1 q o) := by
 obtain ⟨x, y, z, e⟩ := a.feed
 refine ⟨⟨x, y, z, by rw [upd_ne (Ne.symm hq)]; exact e⟩, fun b u hb hu => ?_⟩
 rw [upd_ne (ne_of_none hu hn)]
 exact a.keep b u hb hu
theorem FX.ext {p : Addr} {H H' : Hp} {o : HO} (h : H p = none) (a : FX p (L2.upd H p o) H') : Ext H H' := fun b u e => a.keep b u (ne_of_none e h) (by rw [upd_ne (ne_of_none e h)]; exact e)
theorem Feed.upd {p q : Addr} {H : Hp} {o : HO} (a : Feed H p) (h : H q = none) : Feed (L2.upd H q o) p := by
 obtain ⟨x, y, z, e⟩ := a
 exact ⟨x, y, z, by rw [upd_ne (ne_of_none e h)]; exact e⟩
theorem upd_f {H : Hp} {q b : Addr} {o u : HO} (h : H q = none) (e : H b = some u) : upd H q o b = some u := by rw [upd_ne (ne_of_none e h)]; exact e
end L2
namespace L2
open PySem PySem.Spec PyProof.Rows
theorem Bd.lit {n : Nat} {i : Int} (h : i.natAbs < 2 ^ 64) (hn : 64 ≤ n) : Bd n i := Bd.mono (m := 64) h hn
theorem bd10 : Bd 100000 10 = True := eq_true (Bd.lit (by decide) (by decide))
theorem bd64 : Bd 9000 64 = True := eq_true (Bd.lit (by decide) (by decide))
theorem bd2 : Bd 9000 2 = True := eq_true (Bd.lit (by decide) (by decide))
theorem bd4 : Bd 9000 4 = True := eq_true (Bd.lit (by decide) (by decide))
theorem bd3 : Bd 9000 3 = True := eq_true (Bd.lit (by decide) (by decide))
theorem CMulA.mod {x m y : Int} (h0 : 0 < m) (h : m ≤ 2 ^ 64) : CMulA (x % m) y := by
 have h1 := Int.emod_nonneg x (by omega : m ≠ 0)
 have h2 := Int.emod_lt_of_pos x h0
 exact .left (by omega) (by omega)
theorem ixN_3_0 : ixN 3 0 = some 0 := rfl
theorem ixN_3_1 : ixN 3 1 = some 1 := rfl
theorem ixN_3_2 : ixN 3 2 = some 2 := rfl
theorem ixN_2_0 : ixN 2 0 = some 0 := rfl
theorem ixN_2_1 : ixN 2 1 = some 1 := rfl
theorem ixN_4_0 : ixN 4 0 = some 0 := rfl
theorem ixN_4_1 : ixN 4 1 = some 1 := rfl
theorem ixN_4_2 : ixN 4 2 = some 2 := rfl
theorem ixN_4_3 : ixN 4 3 = some 3 := rfl
theorem atI_mod {xs : List Int} {k : Int} (h : 0 < xs.length) : ∃ x, atI (xs.map V.int) (k % (xs.length : Int)) = some (.int x) ∧ x ∈ xs := by
 have h1 := Int.emod_nonneg k (by omega : (xs.length : Int) ≠ 0)
 have h2 := Int.emod_lt_of_pos k (by omega : 0 < (xs.length : Int))
 obtain ⟨j, hj⟩ : ∃ j : Nat, k % (xs.length : Int) = (j : Int) := ⟨(k % (xs.length : Int)).toNat, by omega⟩
 rw [hj] at h2 ⊢
 have hjl : j < xs.length := by omega
 exact ⟨xs[j], atI_nat (by rw [List.getElem?_map]; simp [hjl]), List.getElem_mem hjl⟩
end L2
namespace L2
open PySem PySem.Spec PyProof.Rows
section
variable {g : TG} {tt : TT} {te tl : TE} {ta : TA} {k : Nat} {js : List Nat} {σ : St} {Q : VK} {H : Hp} {tb : TS} {Dn : Ends} {K : PySem.W.Frag} {a : Addr} {xs : List V}
theorem tlc_range (n : Nat) (ha : ∀ R : List V → Hp → Prop, R [.int n] H → ta σ H R) (hn : n < 1000000) (Pv : Addr → Nat → List V → Hp → Prop) (h0 : ∀ D, H D = none → Pv D 0 [] (upd H D (.lst [])))
  (hl : ∀ D i ys H, i ≤ n → Pv D i ys H → H D = some (.lst ys) ∧ ys.length ≤ i)
  (hs : ∀ D i ys H1, H D = none → i < n → Pv D i ys H1 → g (.int (0 + (i : Int))) (L2.stLC σ k js) H1 fun σ2 H2 => (σ2.drop k = frV σ js ∧ σ2.length = k + js.length) ∧ tt σ2 H2 fun b H3 => if b = true then te σ2 H3 fun y H4 => H4 D = some (.lst ys) ∧ Pv D (i + 1) (ys ++ [y]) (upd H4 D (.lst (ys ++ [y]))) else Pv D (i + 1) ys H3)
  (hd : ∀ D ys H1, H D = none → Pv D n ys H1 → Q (.ref D) H1) : tLC (iRng1 ta) k js g tt te σ H Q :=
 ha _ ⟨n, rfl, by omega, by omega, fun D hD => lc_range (lo := 0) (n := (n : Int).toNat) (Pv D) (h0 D hD) (Nat.lt_trans (by simpa using hn) (by decide)) (fun i ys H hi p => hl D i ys H (by simpa using hi) p) (fun i ys H hi p => hs D i ys H hD (by simpa using hi) p) (fun ys H p => hd D ys H hD (by simpa using p))⟩
theorem tlc_list (ha : ∀ R : VK, R (.ref a) H → tl σ H R) (hq : SqL K H a xs) (hn : xs.length < 1000000) (Pv : Addr → Nat → List V → Hp → Prop) (h0 : ∀ D, H D = none → Pv D 0 [] (upd H D (.lst [])))
  (hl : ∀ D i ys H, i ≤ xs.length → Pv D i ys H → H D = some (.lst ys) ∧ ys.length ≤ i ∧ SqL K H a xs)
  (hs : ∀ D i x ys H1, H D = none → xs[i]? = some x → Pv D i ys H1 → g x (L2.stLC σ k js) H1 fun σ2 H2 => (σ2.drop k = frV σ js ∧ σ2.length = k + js.length) ∧ tt σ2 H2 fun b H3 => if b = true then te σ2 H3 fun y H4 => H4 D = some (.lst ys) ∧ Pv D (i + 1) (ys ++ [y]) (upd H4 D (.lst (ys ++ [y]))) else Pv D (i + 1) ys H3)
  (hd : ∀ D ys H1, H D = none → Pv D xs.length ys H1 → Q (.ref D) H1) : tLC (iList K tl) k js g tt te σ H Q :=
 ha _ ⟨a, rfl, ⟨xs, hq⟩, fun D hD => lc_list (Pv D) (h0 D hD) (Nat.lt_trans hn (by decide)) (fun i ys H hi p => hl D i ys H hi p) (fun i x ys H hi p => hs D i x ys H hD hi p) (fun ys H p => hd D ys H hD p)⟩
theorem tfor_range (n : Nat) (ha : ∀ R : List V → Hp → Prop, R [.int n] H → ta σ H R) (hn : n < 1000000) (Pv : Nat → St → Hp → Prop) (h0 : Pv 0 σ H)
  (hs : ∀ i σ H, i < n → Pv i σ H → g (.int (0 + (i : Int))) σ H fun σ2 H2 => tb { Dn with nx := Pv (i + 1), ct := Pv (i + 1), bk := Dn.nx } σ2 H2) (hd : ∀ σ H, Pv n σ H → Dn.nx σ H) : tFor (iRng1 ta) g tb Dn σ H :=
 ha _ ⟨n, rfl, by omega, by omega, for_range (lo := 0) (n := (n : Int).toNat) Pv h0 (fun i σ H hi p => hs i σ H (by simpa using hi) p) (fun σ H p => hd σ H (by simpa using p))⟩
end
end L2
namespace L2
open PySem PySem.Spec PyProof.Rows
section
variable {X : Cx} {K : PySem.W.Frag}
noncomputable def rLenK (K : PySem.W.Frag) : List V → Hp → VK → Prop := fun xs H Q => ∃ p ys, xs = [.ref p] ∧ (SqL K H p ys ∨ SqT K H p ys) ∧ Q (.int ys.length) H
theorem sl_listK (hK : X.K = K) : SlR X (rSlL K) := by subst hK; exact sl_list
theorem call_anyK (hK : X.K = K) (hc : X.calm = true) : CallR X (.builtin "any") (rAllB K fun bs => bs.any id) := by subst hK; exact call_any hc
theorem op_eqDK (hK : X.K = K) (hu : X.A.units + 64 < cLine) : OpR X (compareOp .Eq) (rEqD K id) := by subst hK; exact op_eqD hu
theorem op_neDK (hK : X.K = K) (hu : X.A.units + 64 < cLine) : OpR X (compareOp .NotEq) (rEqD K not) := by subst hK; exact op_neD hu
theorem pi_listK {tg l : Expr} {tl : TE} (hK : X.K = K) (hl : PE X l tl) : PI X tg l (iList K tl) := by subst hK; exact pi_list hl
end
end L2
namespace L2
open PySem
theorem Feed.ne {p t : Addr} {H : Hp} (h : Feed H p) (ht : H t = none) : t ≠ p := by
 obtain ⟨a, b, c, e⟩ := h
 exact (ne_of_none e ht).symm
end L2
set_option Elab.async false
set_option linter.all false
set_option maxRecDepth 100000
namespace L2
open PySem PySem.Spec PyProof.Rows
noncomputable def lstOf (o : Option HO) : Option (List V) := match o with
 | some (.lst xs) => some xs
 | _ => none
theorem lstOf_l (xs : List V) : lstOf (some (.lst xs)) = some xs := rfl
theorem lstOf_eq {o : Option HO} {xs : List V} (h : lstOf o = some xs) : o = some (.lst xs) := by
 cases o with
 | none => cases h
 | some o =>
  cases o with
  | lst ys => rw [show ys = xs from Option.some.inj h]
  | _ => cases h
theorem optK_elim {α : Type} {o : Option α} {k : α → Prop} (h : optK o k) : ∃ v, o = some v ∧ k v := by
 unfold optK at h
 split at h
 ·exact ⟨_, rfl, h⟩
 ·exact h.elim
theorem seqOf_sq {K : PySem.W.Frag} {H : Hp} {p : Addr} {xs : List V} (h : seqOf (H p) = some xs) : SqL K H p xs ∨ SqT K H p xs := by
 cases e : H p with
 | none => rw [e] at h; cases h
 | some o =>
  rw [e] at h
  cases o with
  | lst ys => rw [show ys = xs from Option.some.inj h] at e; exact .inl (SqL.of e)
  | tup ys => rw [show ys = xs from Option.some.inj h] at e; exact .inr (SqT.of e)
  | _ => cases h
section
variable {X : Cx} {e : Expr}
theorem PE.imp {t t' : TE} (h : PE X e t) (i : ∀ σ H Q, t' σ H Q → t σ H Q) : PE X e t' := fun pins s σ H Q I hw => h pins s σ H Q I (i σ H Q hw)
noncomputable def tUp (t : TE) : TE := fun σ H Q => ∃ R : VK, t σ H R ∧ ∀ x H1, R x H1 → Q x H1
theorem PE.up {t : TE} (h : PE X e t) : PE X e (tUp t) := fun pins s σ H Q I ⟨R, hw, hq⟩ => thn (h pins s σ H R I hw) fun v s1 ⟨x, H1, I1, r1, q1⟩ => ⟨x, H1, I1, r1, hq x H1 q1⟩
end
theorem small6 {n : Nat} (h : n < 1000000) : n < sizeLine := Nat.lt_trans h (by decide)
noncomputable def appR : V → List V → Hp → VK → Prop := fun x vs H Q => match x, vs with
 | .ref l, [y] => optK (lstOf (H l)) fun xs => xs.length < 1000000 ∧ Q .non (upd H l (.lst (xs ++ [y])))
 | _, _ => False
noncomputable def popR : V → List V → Hp → VK → Prop := fun x vs H Q => match x, vs with
 | .ref l, [] => optK (lstOf (H l)) fun xs => optK xs.getLast? fun y => Q y (upd H l (.lst xs.dropLast))
 | _, _ => False
section
variable {X : Cx}
theorem mt_app : MtM X "list.append" appR := by
 intro pins s σ H x vs v us Q I rx rv h
 unfold appR at h
 split at h
 ·rename_i l y
  obtain ⟨xs, e, hz, q⟩ := optK_elim h
  exact mt_append pins s σ H _ _ v us Q I rx rv ⟨l, xs, y, rfl, rfl, lstOf_eq e, small6 hz, q⟩
 ·exact h.elim
noncomputable def tML (r : V → List V → Hp → VK → Prop) (to : TE) (t : TA) : TE := fun σ H Q => to σ H fun x H1 => match x with
 | .ref l => (lstOf (H1 l)).isSome = true ∧ t σ H1 fun vs H2 => r x vs H2 Q
 | _ => False
end
section
variable {X : Cx} {K : PySem.W.Frag} {a b : Expr} {ta tb : TE} {pos : Pos}
noncomputable def catF : R2 := fun x y H Q => match x, y with
 | .ref a, .ref b => optK (lstOf (H a)) fun xs => optK (lstOf (H b)) fun ys => xs.length + ys.length < 1000000 ∧ ∀ p, H p = none → Q (.ref p) (upd H p (.lst (xs ++ ys)))
 | _, _ => False
theorem op_catF : OpR X (binaryOp .Add) catF := by
 intro pins s σ H x y v u Q I rx ry h
 unfold catF at h
 split at h
 ·rename_i p q
  obtain ⟨xs, e, h⟩ := optK_elim h
  obtain ⟨ys, e', hz, k⟩ := optK_elim h
  exact op_cat pins s σ H _ _ v u Q I rx ry ⟨p, q, xs, ys, rfl, rfl, lstOf_eq e, lstOf_eq e', Nat.le_of_lt (small6 hz), k⟩
 ·exact h.elim
noncomputable def listF : List V → Hp → VK → Prop := fun vs H Q => match vs with
 | [.ref p] => optK (seqOf (H p)) fun ys => ∀ l, H l = none → Q (.ref l) (upd H l (.lst ys))
 | _ => False
theorem call_listF : CallR X (.type "list") listF := by
 intro pins s σ H xs us Q I r h
 unfold listF at h
 split at h
 ·rename_i p
  obtain ⟨ys, e, h⟩ := optK_elim h
  exact call_list_of pins s σ H _ us Q I r ⟨p, ys, rfl, seqOf_sq e, h⟩
 ·exact h.elim
noncomputable def lenF : List V → Hp → VK → Prop := fun vs H Q => match vs with
 | [.ref p] => optK (seqOf (H p)) fun ys => Q (.int ys.length) H
 | _ => False
theorem call_lenF : CallR X (.builtin "len") lenF := by
 intro pins s σ H xs us Q I r h
 unfold lenF at h
 split at h
 ·rename_i p
  obtain ⟨ys, e, h⟩ := optK_elim h
  exact call_len_seq pins s σ H _ us Q I r ⟨p, ys, rfl, seqOf_sq e, h⟩
 ·exact h.elim
noncomputable def slF : V → Option Int → Option Int → Hp → VK → Prop := fun x lo hi H Q => match x with
 | .ref a => optK (lstOf (H a)) fun xs => ∀ p, H p = none → Q (.ref p) (upd H p (.lst (cutV xs lo hi)))
 | _ => False
theorem sl_F : SlR X slF := by
 intro pins s σ H x v vl vu lo hi sl Q I rx hs pl pu h
 unfold slF at h
 split at h
 ·rename_i p
  obtain ⟨ys, e, h⟩ := optK_elim h
  exact sl_list pins s σ H _ v vl vu lo hi sl Q I rx hs pl pu ⟨p, ys, rfl, SqL.of (lstOf_eq e), h⟩
 ·exact h.elim
noncomputable def tyN (H : Hp) : V → Option String
 | .non => some "NoneType"
 | .bl _ => some "bool"
 | .int _ => some "int"
 | .str _ => some "str"
 | .ref a => (match H a with
  | some (.lst _) => some "list"
  | some (.tup _) => some "tuple"
  | _ => none)
 | _ => none
theorem tyN_of {H : Hp} {x : V} {n : String} (h : tyN H x = some n) : TyOf K H x (.type n) := by
 cases x with
 | non => cases h; exact .non
 | bl b => cases h; exact .bl b
 | int i => cases h; exact .int i
 | str y => cases h; exact .str y
 | ref a =>
  cases e : H a with
  | none => simp only [tyN, e] at h; cases h
  | some o =>
   cases o with
   | lst xs => simp only [tyN, e] at h; cases h; exact .lst e
   | tup xs => simp only [tyN, e] at h; cases h; exact .tup e
   | _ => simp only [tyN, e] at h; cases h
 | _ => cases h
noncomputable def isiT : String → String → Option Bool
 | "int", "int" => some true | "int", "bool" => some false | "bool", "int" => some true | "bool", "bool" => some true
 | "tuple", "tuple" => some true | "list", "list" => some true | "list", "tuple" => some false | "tuple", "list" => some false | _, _ => none
theorem isi_tup_lst (K : PySem.W.Frag) : PySem.W.kitOne K (.type "tuple") (.type "list") = some false := by kernel_rfl
theorem isiT_ok {n T : String} {b : Bool} (h : isiT n T = some b) : PySem.W.kitOne K (.type n) (.type T) = some b := by
 unfold isiT at h
 split at h
 ·rw [← h]; exact isi_int_int K
 ·rw [← h]; exact isi_int_bool K
 ·rw [← h]; exact isi_bool_int K
 ·rw [← h]; exact isi_bool_bool K
 ·rw [← h]; exact isi_tup_tup K
 ·rw [← h]; exact isi_lst_lst K
 ·rw [← h]; exact isi_lst_tup K
 ·rw [← h]; exact isi_tup_lst K
 ·cases h
noncomputable def isiF : List V → Hp → VK → Prop := fun vs H Q => match vs with
 | [x, .ty T] => optK (tyN H x) fun n => optK (isiT n T) fun b => Q (.bl b) H
 | _ => False
theorem call_isiF : CallR X (.builtin "isinstance") isiF := by
 intro pins s σ H xs us Q I r h
 unfold isiF at h
 split at h
 ·rename_i x T
  obtain ⟨n, e, h⟩ := optK_elim h
  obtain ⟨b, e', q⟩ := optK_elim h
  exact call_isi pins s σ H _ us Q I r ⟨x, T, _, b, rfl, tyN_of e, isiT_ok e', q⟩
 ·exact h.elim
end
section
variable {X : Cx} {o e : Expr} {to : TE} {t : TA} {apos cpos : Pos}
theorem pe_app (ho : PE X o to) (ha : PA X [e] t)
  (hbase : attributeBase o "append" X.env (eval o X.env) = eval o X.env := by rfl)
  (hfew : ((backTo cpos (starEach [e] X.env)).all (fun x => !x.1) && (backToKw cpos (keywordEach [] X.env)).all (fun x => x.1.isSome)
   && decide ([e].length + ([] : List Keyword).length + (if ([] : List Keyword).isEmpty then 0 else 1) < 30)) = true := by rfl)
  (hline : (apos.endLine == cpos.line) = true := by rfl) (hs : starEach [e] X.env = (false, eval e X.env) :: starEach [] X.env := by rfl) (hplain : (backTo cpos (starEach [] X.env)).any (·.1) = false := by rfl) :
  PE X (.Call (.Attribute o "append" apos) [e] [] cpos) (tML appR to t) := by
 intro pins s σ H Q I h
 refine pe_bm PySem.F.plainAttrs_list PySem.F.slot_list_append PySem.F.type_list_append mt_app ho.up ha hbase hfew hline hs hplain pins s σ H Q I ⟨_, h, fun x H1 q => ?_⟩
 cases x with
 | ref l =>
  obtain ⟨h1, h2⟩ := q
  obtain ⟨xs, e⟩ := Option.isSome_iff_exists.mp h1
  exact ⟨.inl ⟨rfl, xs, SqL.of (lstOf_eq e)⟩, h2⟩
 | _ => exact q.elim
noncomputable def tML0 (r : V → List V → Hp → VK → Prop) (to : TE) : TE := fun σ H Q => to σ H fun x H1 => match x with
 | .ref l => (lstOf (H1 l)).isSome = true ∧ r x [] H1 Q
 | _ => False
end
theorem isiT_1 : isiT "int" "int" = some true := rfl
theorem isiT_2 : isiT "int" "bool" = some false := rfl
theorem isiT_3 : isiT "bool" "int" = some true := rfl
theorem isiT_4 : isiT "bool" "bool" = some true := rfl
theorem isiT_5 : isiT "tuple" "tuple" = some true := rfl
theorem isiT_6 : isiT "list" "list" = some true := rfl
theorem isiT_7 : isiT "list" "tuple" = some false := rfl
end L2
namespace L2
open PySem
theorem Ext.set {H H2 : Hp} {D : Addr} {o : HO} (x : Ext H H2) (hD : H D = .none) : Ext H (L2.upd H2 D o) := fun b u e => by rw [upd_ne (ne_of_none e hD)]; exact x b u e
theorem FX.more {p : Addr} {H H1 H2 : Hp} (f : FX p H H1) (x : Ext H1 H2) : FX p H H2 := by
 obtain ⟨a, b, c, e⟩ := f.feed
 exact ⟨⟨a, b, c, x _ _ e⟩, fun b u hb e => x _ _ (f.keep b u hb e)⟩
end L2
namespace L2
open PySem
theorem eqv_ints : ∀ ns ms : List Int, PyData.eqv (.list (ns.map PyData.int)) (.list (ms.map PyData.int)) = decide (ns = ms) := fun ns ms => by
 simp only [PyData.eqv]
 exact PySem.W.ked_eqvAll ns ms
end L2
namespace L2
open PySem
noncomputable def tup3 (o : Option HO) : Option (Int × Int × Int) := match o with
 | some (.tup [.int a, .int b, .int c]) => some (a, b, c)
 | _ => none
theorem tup3_some (a b c : Int) : tup3 (some (.tup [.int a, .int b, .int c])) = some (a, b, c) := rfl
noncomputable def tup2 (o : Option HO) : Option (Int × Int) := match o with
 | some (.tup [.int a, .int b]) => some (a, b)
 | _ => none
theorem tup2_some (a b : Int) : tup2 (some (.tup [.int a, .int b])) = some (a, b) := rfl
noncomputable def B2 (n : Nat) (x : Int × Int) : Prop := Bd n x.1 ∧ Bd n x.2
end L2
namespace L2
open PySem
section
variable {X : Cx} {pos : Pos}
noncomputable def gSeqF (n : Nat) (t : TGs) : TG := fun v σ H Q => match v with
 | .ref a => optK (seqOf (H a)) fun xs => xs.length = n ∧ t xs σ H Q
 | _ => False
theorem pg_F {es : List Expr} {k : Nat} {t : TGs} {n : Nat} (hc : X.calm = true) (h : PGs X es t)
  (hn : (assignEach es X.env).length = n := by rfl) (hst : (assignEach es X.env).findIdx? (·.1) = none := by rfl) : PG X (.Tuple es k pos) (gSeqF n t) := by
 intro pins s σ H v u Q I r hw
 unfold gSeqF at hw
 split at hw
 ·rename_i a
  obtain ⟨xs, e, hl, q⟩ := optK_elim hw
  rcases seqOf_sq (K := X.K) e with e | e
  ·exact pg_seq hc h hn hst pins s σ H _ u Q I r (.inr ⟨a, xs, rfl, e, hl, q⟩)
  ·exact pg_seq hc h hn hst pins s σ H _ u Q I r (.inl ⟨a, xs, rfl, e, hl, q⟩)
 ·exact hw.elim
end
end L2
namespace L2
open PySem
theorem eqv_t2 (a b c d : Int) : PyData.eqv (.tuple [.int a, .int b]) (.tuple [.int c, .int d]) = decide (a = c ∧ b = d) := by
 rw [Bool.eq_iff_iff]
 simp [PyData.eqv, PyData.eqvAll]
theorem rdy_t2 {K : PySem.W.Frag} {H : Hp} {q : Addr} {a b : Int} (e : H q = some (.tup [.int a, .int b])) : Rdy K H (.ref q) (.tuple [.int a, .int b]) := .tup (SqT.of e) (.cons (.int a) (.cons (.int b) .nil))
end L2
set_option Elab.async false
set_option linter.all false
set_option maxRecDepth 100000
namespace L2
open PySem PySem.Spec PyProof.Rows
structure ExcC (K : PySem.W.Frag) (C : Addr) : Prop where
 exc : PySem.W.excIn K C [.type "ValueError", .type "Exception", .type "BaseException", .type "object"] "ValueError.__new__" = true
 ga : PySem.W.findIn K (.ref C) "__getattribute__" = some (some (.builtin "BaseException.__getattribute__"))
 nog : PySem.W.findIn K (.ref C) "__getattr__" = some none
 cl : PySem.W.findIn K (.ref C) "__class__" = some (some (.builtin "object.__class__"))
 hn : PySem.W.specialIn K (.builtin "object.__class__") "__get__" = some (some (.builtin "getset_descriptor.__get__"))
 htk : PySem.W.takesIn K (.builtin "object.__class__") = some true
 isc : (PySem.W.clsIn K C).isSome = true
 sube : PySem.W.mroIn K C (.type "BaseException") = some true
 subo : PySem.W.mroIn K C (.type "object") = some true
noncomputable def ExcB (K : PySem.W.Frag) (C : Addr) : Prop :=
 PySem.W.findIn K (.ref C) "__getattribute__" = some (some (.builtin "BaseException.__getattribute__")) ∧ PySem.W.findIn K (.ref C) "__getattr__" = some none ∧
 PySem.W.findIn K (.ref C) "__class__" = some (some (.builtin "object.__class__")) ∧ PySem.W.specialIn K (.builtin "object.__class__") "__get__" = some (some (.builtin "getset_descriptor.__get__")) ∧
 PySem.W.takesIn K (.builtin "object.__class__") = some true ∧ (PySem.W.clsIn K C).isSome = true ∧ PySem.W.mroIn K C (.type "BaseException") = some true ∧ PySem.W.mroIn K C (.type "object") = some true
noncomputable def IsExc (a C : Addr) (h : Heap) : Prop := ∃ (o : Obj) (vs : Array Value), h.get? a = some o ∧ o.cls = .ref C ∧ o.data = .fields vs
section
open PySem.W PySem.Builtin PySem.Builtin.ObjectAttr PySem.Builtin.Getset_descriptor
variable {prog : Program} {w : World} {A : Around} {E : Value → Shared → Prop} {h : Heap} {g : Array GenState} {d : Drawn} {t : Nat} {os : OsState} {a : Addr} {o : Obj} {vs : Array Value} {C : Addr} {K : PySem.W.Frag}
theorem IsExc.type {M : Model} (I : IsExc a C h) : Looks M h (typeOf (.ref a)) (.ref C) := by
 obtain ⟨o, vs, h1, h2, h3⟩ := I
 exact h2 ▸ (Looks.ld h1).andThen .now
theorem looks_findD {M : Model} {x : Addr} {name : Str} {a' g' : Value} (X : K.In h) (ha : findIn K (.ref C) name = some (some a')) (hg : specialIn K a' "__get__" = some (some g')) (ht : takesIn K a' = some true) : Looks M h (find (.ref x) (.ref C) name) (.bind g' a') :=
 (looks_findIn X ha).andThen ((show Looks M h (getOf (some a')) (some g') from looks_specialIn X hg).andThen ((show Looks M h (dataDescriptor? (some a') (some g')) (some (g', a')) from (looks_takesIn X ht).andThen .now).andThen (Looks.tag .now)))
theorem class_getD {R : Result → Shared → Prop} {tp : Value} (X : K.In h) (hm : mroIn K C (.type "object") = some true) (I : IsExc a C h) (q : R (.ok (.ret (.ref C))) ⟨h, g, d, t, os⟩) :
  codeAny (model prog w) A (.call (.builtin "getset_descriptor.__get__") ⟨[.builtin "object.__class__", .ref a, tp], []⟩) R ⟨h, g, d, t, os⟩ := by
 have e0 := IsExc.type (M := model prog w) I
 have e1 := looks_mroIn (M := model prog w) X hm
 refine codeAny_call_builtin KF.slot_gs.plain KF.entry_gs ?_
 refine KF.slot_gs.check _ _ _ _ _ _ _ _ KF.type_class (KF.args_gs _ _ _) ?_
 unfold Builtin.«getset_descriptor.__get__»
 unfold descrGet
 rw [dga_obj]
 refine wpAny_bind ?_
 refine wpAny_pure ?_
 unfold descrGetter descrCheckInstance
 unfold descrNameAndClass isInstance
 simp only [KF.owner_class]
 repeat lk
 refine ⟨Code.quiet_builtin _ (by decide +kernel), ?_⟩
 refine codeAny_builtin KF.entry_class ?_
 unfold Builtin.«object.__class__»
 unfold shownTypeOf
 repeat lk
 exact q
theorem class_entry_exc {tk : Tok} {Q : Fin → Shared → Prop} (X : K.In h) (T : ExcB K C) (I : IsExc a C h) (hq : Q (.done (.ret (.ref C))) ⟨h, g, d, t, os⟩) :
  wpAny (model prog w) A (Builtin.«object.__getattribute__» ⟨[.ref a, .str "__class__" tk], []⟩) Q E ⟨h, g, d, t, os⟩ := by
 have L0 := IsExc.type (M := model prog w) I
 have L1 := looks_findD (M := model prog w) (x := a) X T.2.2.1 T.2.2.2.1 T.2.2.2.2.1
 unfold Builtin.«object.__getattribute__»
 repeat lk
 refine wpAny_run (codeAny_mono (class_getD (R := fun r s' => r = .ok (.ret (.ref C)) ∧ s' = ⟨h, g, d, t, os⟩) X T.2.2.2.2.2.2.2 I ⟨rfl, rfl⟩) fun r s' hr => ?_)
 obtain ⟨rfl, rfl⟩ := hr
 exact wpAny_pure (wpAny_pure hq)
theorem check_ga_exc {M : Model} {nameV : Value} {Q : Unit → Shared → Prop} (X : K.In h) (T : ExcB K C) (I : IsExc a C h) (hq : Q () ⟨h, g, d, t, os⟩) : wpAny M A (checkBuiltinCall "BaseException.__getattribute__" ⟨[.ref a, nameV], []⟩) Q E ⟨h, g, d, t, os⟩ := by
 have hk : builtinKind "BaseException.__getattribute__" = some .slot := by decide +kernel
 have hsplit : splitId "BaseException.__getattribute__" = some ("BaseException", "__getattribute__") := by decide +kernel
 have L0 := IsExc.type (M := M) I
 have L1 := PySem.W.looks_mroIn (M := M) X T.2.2.2.2.2.2.1
 have ha := F.args_bexc_ga (.ref a) nameV
 simp only [checkBuiltinCall, hk, hsplit]
 refine wpAny_bind ?_
 ·unfold isInstance
  repeat lk
  exact hq
theorem class_call_exc {tk : Tok} {R : Result → Shared → Prop} (X : K.In h) (T : ExcB K C) (I : IsExc a C h) (hq : R (.ok (.ret (.ref C))) ⟨h, g, d, t, os⟩) :
  codeAny (model prog w) A (.call (.builtin "BaseException.__getattribute__") ⟨[.ref a, .str "__class__" tk], []⟩) R ⟨h, g, d, t, os⟩ :=
 codeAny_call_builtin F.excAttr_ValueError.ga.plain F.entry_bexc_ga (check_ga_exc X T I (class_entry_exc X T I hq))
theorem class_by_exc {tk : Tok} {Q : Value → Shared → Prop} (X : K.In h) (T : ExcB K C) (I : IsExc a C h) (hq : Q (.ref C) ⟨h, g, d, t, os⟩) :
  wpAny (model prog w) A (getAttrBy (.ref a) (.str "__class__" tk) false) Q E ⟨h, g, d, t, os⟩ := by
 have L0 := IsExc.type (M := model prog w) I
 have L1 := PySem.W.looks_findIn (M := model prog w) X T.1
 have L2 := PySem.W.looks_findIn (M := model prog w) X T.2.1
 have hx2 : (Value.builtin "BaseException.__getattribute__" == Value.builtin "object.__getattribute__") = false := by decide +kernel
 unfold getAttrBy
 refine wpAny_holding (wpAny_bind (L0.at (wpAny_bind (L1.at ?_))))
 dsimp only
 rw [hx2, Bool.and_false, if_neg Bool.false_ne_true]
 unfold getAttrByItsOwn hookBefore
 rw [show onTheHeap (Value.ref C) = true from rfl, if_pos rfl]
 refine wpAny_bind (L2.at (wpAny_bind (wpAny_attempt (wpAny_holding ?_))))
 unfold callGetattribute
 rw [Bool.false_and, if_neg Bool.false_ne_true]
 have f3 := F.excAttr_ValueError.ga.bind (.ref a)
 unfold boundAndCalled
 repeat lk
 refine wpAny_run (codeAny_mono (class_call_exc (R := fun r s' => r = .ok (.ret (.ref C)) ∧ s' = ⟨h, g, d, t, os⟩) X T I ⟨rfl, rfl⟩) fun r s' hr => ?_)
 obtain ⟨rfl, rfl⟩ := hr
 exact wpAny_pure (wpAny_pure hq)
theorem kitx_exc (T : ExcB K C) : PySem.W.KitX K (.ref a) (.ref C) (IsExc a C) where
 ty := fun _ _ _ I => I.type
 it := fun _ _ X _ => by
  obtain ⟨cdD, hcD⟩ := Option.isSome_iff_exists.mp T.2.2.2.2.2.1
  unfold clsIn at hcD
  split at hcD
  ·rename_i c' d' cd' sl' ho
   intro A' Q' E' s' k q
   unfold isType loadHead
   exact wpAny_bind (wpAny_loadPart (k _ _ (X _ _ ho)) (wpAny_pure q))
  ·cases hcD
 ne := fun h tp dd its n sl X htp => by
  obtain ⟨cdD, hcD⟩ := Option.isSome_iff_exists.mp T.2.2.2.2.2.1
  refine Bool.eq_false_iff.mpr fun q => ?_
  have e : C = tp := Value.ref.inj (beq_iff_eq.mp q)
  subst e
  unfold clsIn at hcD
  split at hcD
  ·rename_i c' d' cd' sl' ho
   have z := (X _ _ ho).symm.trans htp
   cases z
  ·cases hcD
 ca := fun {_ _ _ _ _ s} X I k => by
  obtain ⟨h0, g0, d0, t0, os0⟩ := s
  unfold getAttr? getAttrBy?
  exact wpAny_bind (wpAny_mkText (wpAny_bind (wpAny_attempt (class_by_exc X T I (wpAny_pure k)))))
end
theorem ExcC.b {K : PySem.W.Frag} {C : Addr} (T : ExcC K C) : ExcB K C := ⟨T.ga, T.nog, T.cl, T.hn, T.htk, T.isc, T.sube, T.subo⟩
noncomputable def IsExcD (a C : Addr) (od : Option Addr) (h : Heap) : Prop := ∃ (o : Obj) (vs : Array Value), h.get? a = some o ∧ o.cls = .ref C ∧ o.data = .fields vs ∧ ∀ dx, od = some dx → o.dict = some dx
theorem IsExcD.e {a C : Addr} {od : Option Addr} {h : Heap} (x : IsExcD a C od h) : IsExc a C h := by
 obtain ⟨o, vs, h1, h2, h3, _⟩ := x
 exact ⟨o, vs, h1, h2, h3⟩
noncomputable def excD (a C : Addr) (od : Option Addr) : HO := .ext (IsExcD a C od)
section
variable {X : Cx}
noncomputable def rIsiX (K : PySem.W.Frag) : List V → Hp → VK → Prop := fun xs H Q => ∃ a C od, xs[0]? = some (.ref a) ∧ H a = some (excD a C od) ∧ ExcB K C ∧
 ((∃ D b, xs = [.ref a, .ref D] ∧ PySem.W.kitOne K (.ref C) (.ref D) = some b ∧ Q (.bl b) H) ∨ (∃ T b, xs = [.ref a, .ty T] ∧ PySem.W.kitOne K (.ref C) (.type T) = some b ∧ Q (.bl b) H))
theorem call_isiX {K : PySem.W.Frag} (hK : X.K = K) : CallR X (.builtin "isinstance") (rIsiX K) := by
 subst hK
 intro pins s σ H xs us Q I r h
 obtain ⟨a, C, od, _, ha, T, h⟩ := h
 obtain ⟨hx, _, _⟩ := I.hok a _ ha
 have hx := IsExcD.e hx
 rcases h with ⟨D, b, rfl, e, q⟩ | ⟨D, b, rfl, e, q⟩
 ·obtain ⟨u, v, rfl, ru, rv⟩ := r.two
  obtain rfl : u = Value.ref a := ru
  obtain rfl : v = Value.ref D := rv
  exact PySem.W.kia_one (kitx_exc T) I.kIn hx e (fun z => nomatch z) fun tk => ⟨.bl b, H, I.tok tk, rfl, q⟩
 ·obtain ⟨u, v, rfl, ru, rv⟩ := r.two
  obtain rfl : u = Value.ref a := ru
  obtain rfl : v = Value.type D := rv
  exact PySem.W.kia_one (kitx_exc T) I.kIn hx e (fun z => nomatch z) fun tk => ⟨.bl b, H, I.tok tk, rfl, q⟩
noncomputable def rIsiXT (K : PySem.W.Frag) : List V → Hp → VK → Prop := fun xs H Q => ∃ (a C tp : Addr) (od : Option Addr) (Ds : List Addr) (b : Bool), xs = [.ref a, .ref tp] ∧ H a = some (excD a C od) ∧ ExcB K C ∧ H tp = some (.tup (Ds.map V.ref)) ∧ PySem.W.kitAny K (.ref C) (Ds.map Value.ref) = some b ∧ Q (.bl b) H
theorem vals_ref : ∀ {Ds : List Addr} {us : List Value}, Vals (Ds.map V.ref) us → us = Ds.map Value.ref
 | [], _, .nil => rfl
 | b :: r, _, .cons h t => by
  rw [show _ = Value.ref b from h, vals_ref t]
  rfl
theorem call_isiXT {K : PySem.W.Frag} (hK : X.K = K) : CallR X (.builtin "isinstance") (rIsiXT K) := by
 subst hK
 intro pins s σ H xs us Q I r h
 obtain ⟨a, C, tp, od, Ds, b, rfl, ha, T, ht, e, q⟩ := h
 obtain ⟨hx, _, _⟩ := I.hok a _ ha
 have hx := IsExcD.e hx
 obtain ⟨u, v, rfl, ru, rv⟩ := r.two
 obtain rfl : u = Value.ref a := ru
 obtain rfl : v = Value.ref tp := rv
 obtain ⟨hz, its, rits, o, ho, hc, n, hd⟩ := I.hok tp _ ht
 have := vals_ref rits
 subst this
 obtain ⟨oc, od, odt, osl⟩ := o
 dsimp only at hc hd
 subst hc hd
 exact PySem.W.kia_tup (kitx_exc T) I.kIn hx ho e (fun z => nomatch z) fun tk => ⟨.bl b, H, I.tok tk, rfl, q⟩
end
end L2
set_option Elab.async false
set_option linter.all false
set_option maxRecDepth 100000
namespace L2
open PySem PySem.Spec PyProof.Rows
noncomputable def DKept (h h' : Heap) : Prop := ∀ a o, h.get? a = some o → ∃ o', h'.get? a = some o' ∧ o'.dict = o.dict
theorem DKept.refl {h : Heap} : DKept h h := fun a o e => ⟨o, e, rfl⟩
theorem DKept.trans {h1 h2 h3 : Heap} (x : DKept h1 h2) (y : DKept h2 h3) : DKept h1 h3 := fun a o e => by
 obtain ⟨o1, e1, d1⟩ := x a o e
 obtain ⟨o2, e2, d2⟩ := y a o1 e1
 exact ⟨o2, e2, d2.trans d1⟩
inductive KD {α : Type} : Sem α → Prop
 | pure (a : α) : KD (.pure a)
 | raise (e : Value) : KD (.raise e)
 | uns (x : String) : KD (.unsupported x)
 | rule {t : String} {k : Unit → Sem α} : KD (k ()) → KD (.rule t k)
 | at {p : Pos} {k : Unit → Sem α} : KD (k ()) → KD (.at p k)
 | load {a : Addr} {p : Option Value} {k : Obj → Sem α} : (∀ o, KD (k o)) → KD (.load a p k)
 | upd {a : Addr} {p : Option Value} {f : Obj → Obj} {k : Unit → Sem α} : (∀ o, (f o).dict = o.dict ∧ (o.isFreed = false → (f o).isFreed = false)) → KD (k ()) → KD (.update a p f k)
 | alloc {o : Obj} {k : Addr → Sem α} : (∀ a, KD (k a)) → KD (.alloc o k)
 | stack {k : List (Code × Pos) → Sem α} : (∀ l, KD (k l)) → KD (.stack k)
 | ask {k : Setting → Sem α} : (∀ l, KD (k l)) → KD (.ask k)
 | fresh {k : Tok → Sem α} : (∀ l, KD (k l)) → KD (.fresh k)
theorem KD.bind {α β : Type} {t : Sem α} {f : α → Sem β} (h : KD t) (g : ∀ a, KD (f a)) : KD (t >>= f) := by
 induction h with
 | pure a => exact g a
 | raise e => exact .raise e
 | uns x => exact .uns x
 | rule _ ih => exact .rule ih
 | «at» _ ih => exact .at ih
 | load _ ih => exact .load ih
 | upd c _ ih => exact .upd c ih
 | alloc _ ih => exact .alloc ih
 | stack _ ih => exact .stack ih
 | ask _ ih => exact .ask ih
 | fresh _ ih => exact .fresh ih
theorem dk_upd {h : Heap} {a : Addr} {f : Obj → Obj} (c : ∀ o, (f o).dict = o.dict ∧ (o.isFreed = false → (f o).isFreed = false)) : DKept h (h.update a f) := by
 intro b o e
 by_cases hb : b = a
 ·subst hb
  obtain ⟨e1, e2⟩ := Heap.get?_some_iff.mp e
  refine ⟨f o, Heap.get?_some_iff.mpr ⟨?_, (c o).2 e2⟩, (c o).1⟩
  cases h with
  | mk objs l =>
   show (objs.modify b f)[b]? = _
   rw [Array.getElem?_modify, if_pos rfl]
   show Option.map f objs[b]? = _
   rw [show objs[b]? = some o from e1]
   rfl
 ·exact ⟨o, Heap.get?_update_of_ne f (Ne.symm hb) e, rfl⟩
theorem KD.wp {α : Type} {M : Model} {Γ : PySem.Ctx} {t : Sem α} (h : KD t) {h0 : Heap} : ∀ {Q : α → Pos → Shared → Prop} {E : Value → Pos → Shared → Prop} {p : Pos} {s : Shared}, DKept h0 s.heap → Sem.wp M Γ t Q E p s →
  Sem.wp M Γ t (fun a p' s' => Q a p' s' ∧ DKept h0 s'.heap) (fun e p' s' => E e p' s' ∧ DKept h0 s'.heap) p s := by
 induction h with
 | pure a => intro Q E p s d q; exact ⟨q, d⟩
 | raise e => intro Q E p s d q; exact ⟨q, d⟩
 | uns x => intro Q E p s d q; exact q
 | rule _ ih => intro Q E p s d q; exact ih d q
 | «at» _ ih => intro Q E p s d q; exact ih d q
 | load _ ih => intro Q E p s d q; obtain ⟨o, e, q⟩ := q; exact ⟨o, e, ih o d q⟩
 | upd c _ ih => intro Q E p s d q; obtain ⟨e, q⟩ := q; exact ⟨e, ih (d.trans (dk_upd c)) q⟩
 | alloc _ ih => intro Q E p s d q; exact ih _ (d.trans fun b o e => ⟨o, Heap.get?_push_of_some _ e, rfl⟩) q
 | stack _ ih => intro Q E p s d q; exact ih _ d q
 | ask _ ih => intro Q E p s d q; exact ih _ d q
 | fresh _ ih => intro Q E p s d q; exact ih _ d q
theorem KD.any {α : Type} {M : Model} {A : Around} {t : Sem α} (h : KD t) {Q : α → Shared → Prop} {E : Value → Shared → Prop} {s : Shared} (q : wpAny M A t Q E s) :
  wpAny M A t (fun a s' => Q a s' ∧ DKept s.heap s'.heap) (fun e s' => E e s' ∧ DKept s.heap s'.heap) s := fun Γ p hΓ => h.wp .refl (q Γ p hΓ)
theorem kd_load {a : Addr} : KD (load a) := .load fun o => .pure o
theorem kd_uns {α : Type} {x : String} : KD (unsupported x : Sem α) := .uns x
theorem kd_fields {v : Value} : KD (fieldsOf v) := by
 unfold fieldsOf
 split
 ·refine kd_load.bind fun o => ?_
  split
  ·exact .pure _
  ·exact kd_uns
 ·exact kd_uns
theorem kd_field {v : Value} {i : Nat} : KD (field v i) := by
 unfold field
 refine kd_fields.bind fun vs => ?_
 split
 ·exact .pure _
 ·exact kd_uns
theorem kd_mapFields {g : Array Value → Array Value} (o : Obj) : (Obj.mapFields g o).dict = o.dict ∧ (o.isFreed = false → (Obj.mapFields g o).isFreed = false) := by
 unfold Obj.mapFields
 split
 ·exact ⟨rfl, fun _ => rfl⟩
 ·exact ⟨rfl, id⟩
theorem kd_setField {v x : Value} {i : Nat} : KD (setField v i x) := by
 unfold setField
 split
 ·unfold updateField
  refine kd_load.bind fun o => ?_
  split
  ·split
   ·exact .upd kd_mapFields (.pure _)
   ·exact kd_uns
  ·exact kd_uns
 ·exact kd_uns
theorem kd_newFields {ty : String} {vs : List Value} : KD (newFields ty vs) := by
 unfold newFields newObj
 dsimp only
 split
 ·exact kd_uns.bind fun _ => .alloc fun a => .pure _
 ·exact .alloc fun a => .pure _
theorem kd_ready : ∀ (l : List Env), KD (readyFrames l)
 | [] => .pure _
 | env :: outer => by
  rw [readyFrames.eq_2]
  split
  ·refine kd_load.bind fun o => ?_
   split
   ·exact .pure _
   ·have h1 : KD (behindIsImport env outer) := by
     unfold behindIsImport
     split
     ·exact .pure _
     ·split
      ·exact .pure _
      ·exact kd_field.bind fun _ => .pure _
    refine h1.bind fun b => ?_
    have h2 : KD (keptBack env b outer) := by
     unfold keptBack
     split
     ·split
      ·exact .pure _
      ·refine KD.bind ?_ fun _ => .pure _
       unfold underTheClaimsCaller
       exact .stack fun l => .pure _
     ·exact .pure _
    refine h2.bind fun v => ?_
    exact .upd (fun o => ⟨rfl, fun h => by obtain ⟨c, d, dt, sl⟩ := o; cases dt <;> first | rfl | exact h⟩) (kd_ready outer)
  ·exact kd_uns
theorem kd_note {e : Value} {env : Env} : KD (noteFrame e env) := by
 unfold noteFrame
 split
 ·rename_i f0 _
  have hj : ∀ (head : Value), KD (do
    let a ← PySem.frameOf env
    let b ← entryPlaceOf f0 (head != Value.none)
    let c ← EntryCells.newEntry head a Value.none (rawInt f0) Value.none b
    setField e 1 c) := fun head => by
   refine KD.bind ?_ fun a => KD.bind ?_ fun b => KD.bind ?_ fun c => kd_setField
   ·unfold PySem.frameOf
    refine KD.bind ?_ fun l => KD.bind ?_ fun o => ?_
    ·exact .stack fun l => .pure _
    ·unfold frameObject
     split
     ·exact .pure _
     ·exact (kd_ready _).bind fun _ => .pure _
    ·split
     ·exact .pure _
     ·exact kd_uns
   ·unfold entryPlaceOf
    refine KD.bind (.stack fun l => .pure _) fun acts => ?_
    split
    ·exact .pure _
    ·exact .pure _
   ·exact kd_newFields
  refine kd_field.bind fun head => ?_
  dsimp only
  split
  ·refine kd_field.bind fun x => ?_
   split
   ·exact .pure _
   ·exact kd_setField.bind fun _ => hj head
  ·exact hj head
 ·exact kd_uns
theorem kd_flight {e : Value} {fr : Option Addr} : KD (setFlight e fr) := by
 unfold setFlight
 refine kd_field.bind fun tb => ?_
 split
 ·exact kd_setField
 ·exact .pure _
theorem kd_leaving {e : Value} {env : Env} : KD (leaving env e) := kd_note.bind fun _ => kd_flight
end L2
set_option Elab.async false
set_option linter.all false
set_option maxRecDepth 100000
namespace L2
open PySem PySem.Spec PyProof.Rows
theorem ObjOk.there {P : Program} {w : World} {H : Hp} {h : Heap} {a : Addr} {o : HO} (x : ObjOk P w H h a o) : ∃ u, h.get? a = some u := by
 cases o with
 | lst xs => obtain ⟨_, _, _, _, e⟩ := x; exact ⟨_, e⟩
 | tup xs => obtain ⟨_, _, _, ob, e, _⟩ := x; exact ⟨_, e⟩
 | dK kvs => obtain ⟨_, _, _, _, ob, _, _, e, _⟩ := x; exact ⟨_, e⟩
 | dT kvs => obtain ⟨_, _, _, _, ob, _, _, e, _⟩ := x; exact ⟨_, e⟩
 | set S n => obtain ⟨ob, _, _, _, e, _⟩ := x; exact ⟨_, e⟩
 | ins C dx fs => obtain ⟨_, _, _, e, _⟩ := x; exact ⟨_, e⟩
 | own y => exact x
 | xd fs => obtain ⟨_, ⟨ob, _, _, e, _⟩, _⟩ := x; exact ⟨_, e⟩
 | rng lo hi => obtain ⟨_, _, _, e⟩ := x; exact ⟨_, e⟩
 | frz ob u => exact ⟨_, x.1⟩
 | tbl ps => obtain ⟨_, e, _⟩ := x; exact ⟨_, e⟩
 | met f y => exact ⟨_, (show h.get? a = some _ from x)⟩
 | ext φ => exact x.2.1
noncomputable def CXE (P : Program) (w : World) : CXT := fun outer H s E ev s' => ∃ (e C : Addr) (a0 : Value) (B : Heap) (H' : Hp) (od : Option Addr), ev = .ref e ∧ s'.os = s.os ∧ AllBare s'.gens ∧ Un (frs outer) [] H H' s.heap s'.heap ∧
 HOk P w H' s'.heap ∧ Heap.FlyingW B outer e (.ref C) a0 s'.heap ∧ (∀ b u, H' b = some u → ∃ o, B.get? b = some o) ∧ (∀ b o, s.heap.get? b = some o → b ∉ frs outer → ∃ o', B.get? b = some o') ∧ (∃ oe, s'.heap.get? e = some oe ∧ ∀ dx, od = some dx → oe.dict = some dx) ∧ E (.ref C) od H'
section
variable {P : Program} {w : World} {H H1 H' : Hp} {h0 h1 h2 B : Heap} {fs : List Addr} {L : Addr}
theorem fly_hok (ok : HOk P w H' h1) (b1 : B.StaysIn h1) (b2 : B.StaysIn h2) (c1 : ∀ b u, H' b = some u → ∃ o, B.get? b = some o) : HOk P w H' h2 := fun a o e =>
 (ok a o e).stay (fun b u hb q => by
  have hB : ∃ o', B.get? b = some o' := by
   rcases hb with rfl | hb
   ·exact c1 _ _ e
   ·exact c1 _ _ hb
  obtain ⟨o', hB⟩ := hB
  have z := b1 b o' hB
  rw [q] at z
  cases z
  exact b2 b _ hB) (fun _ q => q) fun _ _ q => q
theorem fly_un (u : Un fs [] H H' h0 h1) (b1 : B.StaysIn h1) (b2 : B.StaysIn h2) (up : h1.UpToSlots h2) (c2 : ∀ b o, h0.get? b = some o → b ∉ fs → ∃ o', B.get? b = some o')
  (hfs : ∀ b ∈ fs, H b = none ∧ ∃ o, h0.get? b = some o ∧ ∀ vs, o.data ≠ .fields vs) : Un fs [] H H' h0 h2 where
 keep := fun b o q n hb hx => by
  have e := u.keep b o q n hb hx
  obtain ⟨o', hB⟩ := c2 b o q hb
  have z := b1 b o' hB
  rw [e] at z
  cases z
  exact b2 b _ hB
 slot := fun b o q n hb hx => by
  obtain ⟨sl, e⟩ := u.slot b o q n hb hx
  obtain ⟨_, o2, ho2, nf⟩ := hfs b hb
  rw [q] at ho2
  cases ho2
  obtain ⟨sl', e'⟩ := up b _ e nf
  exact ⟨sl', e'⟩
 free := u.free
 there := fun b o q hx => by
  by_cases hb : b ∈ fs
  ·obtain ⟨n, o2, ho2, nf⟩ := hfs b hb
   rw [q] at ho2
   cases ho2
   obtain ⟨sl, e⟩ := u.slot b o q n hb hx
   obtain ⟨sl', e'⟩ := up b _ e nf
   exact ⟨_, e'⟩
  ·obtain ⟨o', hB⟩ := c2 b o q hb
   exact ⟨_, b2 b _ hB⟩
 tups := u.tups
 frzs := u.frzs
 tbls := u.tbls
theorem Un.under (a : Un fs [] H H1 h0 h1) (b : Un (L :: fs) [] H1 H' h1 h2) (hL : ∀ c o, h0.get? c = some o → c ≠ L) : Un fs [] H H' h0 h2 where
 keep := fun c o q n hc hx => b.keep c o (a.keep c o q n hc hx) (a.free c o q n hx) (fun z => (List.mem_cons.mp z).elim (hL c o q) hc) hx
 slot := fun c o q n hc hx => by
  obtain ⟨sl, e1⟩ := a.slot c o q n hc hx
  obtain ⟨sl', e2⟩ := b.slot c _ e1 (a.free c o q n hx) (List.mem_cons_of_mem _ hc) hx
  exact ⟨sl', e2⟩
 free := fun c o q n hx => by
  obtain ⟨o', e1⟩ := a.there c o q hx
  exact b.free c o' e1 (a.free c o q n hx) hx
 there := fun c o q hx => by
  obtain ⟨o', e1⟩ := a.there c o q hx
  exact b.there c o' e1 hx
 tups := fun c xs q => b.tups c xs (a.tups c xs q)
 frzs := fun c o xs q => b.frzs c o xs (a.frzs c o xs q)
 tbls := fun c ps q => by
  obtain ⟨m1, e1⟩ := a.tbls c ps q
  obtain ⟨m2, e2⟩ := b.tbls c _ e1
  exact ⟨m1 ++ m2, by rw [e2, Array.append_assoc]⟩
end
section
variable {X : Cx} {pins : List (Addr × Obj)} {σ : St} {H : Hp} {s : Shared}
theorem Inv.hfs (I : Inv X pins σ H s) : ∀ b ∈ frs X.stack, H b = none ∧ ∃ o, s.heap.get? b = some o ∧ ∀ vs, o.data ≠ .fields vs := fun b hb => by
 obtain ⟨_, o, ho, nf⟩ := I.stack.mem hb
 exact ⟨I.stkFree b hb, o, ho, nf⟩
end
section
variable {P : Program} {w : World} {K : PySem.W.Frag} {mg : Str → Option Value} {base : Heap} {N : List Str} {qual : Str} {scope : Scope} {f : Addr} {cd : Value} {A : Around} {outer : List Env} {s : Shared} {H : Hp} {E : XK}
theorem cxe_on {pins : List (Addr × Obj)} {σ : St} {H1 : Hp} {s1 s' : Shared} {ev : Value} (I : Inv (cxOf (CXE P w) P w K mg base N qual scope f cd A outer s H E) pins σ H1 s1)
  (h : CXE P w (cxOf (CXE P w) P w K mg base N qual scope f cd A outer s H E).stack H1 s1 E ev s') : (cxOf (CXE P w) P w K mg base N qual scope f cd A outer s H E).xe ev s' := by
 obtain ⟨e, C, a0, B, H', od, rfl, os, bare, un, hok, fl, c1, c2, hd, hE⟩ := h
 have hab := I.ok.above
 have neL : ∀ b o, s.heap.get? b = some o → b ≠ s.heap.objs.size := fun b o q => Nat.ne_of_lt (Heap.lt_size q)
 refine wpAny_mono (kd_leaving.any (wpAny_leaves_onW (Q := fun _ s2 => ∃ h2, s2 = { s' with heap := h2 } ∧ Heap.FlyingW B outer e (.ref C) a0 h2 ∧ s'.heap.UpToSlots h2) (E := fun _ _ => False) I.ok.frames rfl fl fun h' fl' up => ⟨h', rfl, fl', up⟩)) (fun _ s2 hq => ?_) fun _ _ z => z.1.elim
 obtain ⟨⟨h', rfl, fl', up⟩, dk⟩ := hq
 refine ⟨e, C, a0, B, H', od, rfl, os.trans I.os, bare, ?_, fly_hok hok fl.1 fl'.1 c1, fl', c1, fun b o q hb => ?_, ?_, hE⟩
 ·exact Un.under (L := s.heap.objs.size) I.base (fly_un un fl.1 fl'.1 up c2 I.hfs) neL
 ·obtain ⟨o1, q1⟩ := I.base.there b o q (fun z => nomatch z)
  exact c2 b o1 q1 fun z => (List.mem_cons.mp z).elim (neL b o q) hb
 ·obtain ⟨oe, h1, h2⟩ := hd
  obtain ⟨o', h3, h4⟩ := dk e oe h1
  exact ⟨o', h3, fun dx z => h4.trans (h2 dx z)⟩
theorem passE : Passes (CXE P w) (cxOf (CXE P w) P w K mg base N qual scope f cd A outer s H E) E := fun _ _ _ _ _ _ I h => cxe_on I h
end
theorem passE0 {X : Cx} {P : Program} {w : World} : Passes (CXE P w) X E0 := fun _ _ _ _ _ _ _ h => by
 obtain ⟨_, _, _, _, _, _, _, _, _, _, _, _, _, _, _, hE⟩ := h
 exact hE.elim
noncomputable def MadeOk (X : Cx) (E : XK) : Prop := ∀ (pins : List (Addr × Obj)) (σ : St) (H : Hp) (s : Shared) (e C : Addr) (args : List Value) (h' : Heap), Inv X pins σ H s → Heap.MadeExcOf s.heap h' e (.ref C) args → E (.ref C) none H → X.xe (.ref e) { s with heap := h' }
section
variable {P : Program} {w : World} {K : PySem.W.Frag} {mg : Str → Option Value} {base : Heap} {N : List Str} {qual : Str} {scope : Scope} {f : Addr} {cd : Value} {A : Around} {outer : List Env} {s : Shared} {H : Hp} {E : XK}
theorem madeE : MadeOk (cxOf (CXE P w) P w K mg base N qual scope f cd A outer s H E) E := by
 intro pins σ H1 s1 e C args h' I hm hE
 have neL : ∀ b o, s.heap.get? b = some o → b ≠ s.heap.objs.size := fun b o q => Nat.ne_of_lt (Heap.lt_size q)
 have hB : ∀ b o, s1.heap.get? b = some o → b ∉ frs (cxOf (CXE P w) P w K mg base N qual scope f cd A outer s H E).stack → (PySem.W.hideAll s1.heap (frs (cxOf (CXE P w) P w K mg base N qual scope f cd A outer s H E).stack)).get? b = some o := fun b o q hb => PySem.W.hideAll_get _ q hb
 have bs : (PySem.W.hideAll s1.heap (frs (cxOf (CXE P w) P w K mg base N qual scope f cd A outer s H E).stack)).StaysIn s1.heap := fun b o q => PySem.W.of_hideAll _ q
 refine wpAny_leaves_madeW (base := PySem.W.hideAll s1.heap (frs (cxOf (CXE P w) P w K mg base N qual scope f cd A outer s H E).stack)) (h := s1.heap) I.ok.frames rfl bs (PySem.W.funFrames_hide I.stack fun env he a ha => List.mem_filterMap.mpr ⟨env, he, ha⟩) hm fun h2 t fl _ _ up => ?_
 have c1 : ∀ b u, H1 b = some u → ∃ o, (PySem.W.hideAll s1.heap (frs (cxOf (CXE P w) P w K mg base N qual scope f cd A outer s H E).stack)).get? b = some o := fun b u q => by
  obtain ⟨o, ho⟩ := (I.hok b u q).there
  refine ⟨o, hB b o ho fun z => ?_⟩
  rw [I.stkFree b z] at q
  cases q
 have c2 : ∀ b o, s1.heap.get? b = some o → b ∉ frs (cxOf (CXE P w) P w K mg base N qual scope f cd A outer s H E).stack → ∃ o', (PySem.W.hideAll s1.heap (frs (cxOf (CXE P w) P w K mg base N qual scope f cd A outer s H E).stack)).get? b = some o' := fun b o q hb => ⟨o, hB b o q hb⟩
 have up2 : s1.heap.UpToSlots h2 := (Heap.UpToSlots.of_keeps hm.keeps).trans up
 refine ⟨e, C, .ref t, _, H1, none, rfl, I.os, I.bare, ?_, fly_hok I.hok bs fl.1 c1, fl, c1, fun b o q hb => ?_, ?_, hE⟩
 ·exact Un.under (L := s.heap.objs.size) I.base (fly_un Un.refl bs fl.1 up2 c2 I.hfs) neL
 ·obtain ⟨o1, q1⟩ := I.base.there b o q (fun z => nomatch z)
  exact c2 b o1 q1 fun z => (List.mem_cons.mp z).elim (neL b o q) hb
 ·obtain ⟨ob, h1, _⟩ := fl.there
  exact ⟨ob, h1, fun dx z => nomatch z⟩
end
theorem exc_obj {K : PySem.W.Frag} {h : Heap} {C : Addr} {bmB : List Value} {newId : String} (X : K.In h) (q : PySem.W.excIn K C bmB newId = true) :
  ∃ (bm : List Value) (N : Addr) (nm qn : Str) (bs : List Value) (hd : Bool) (sn : List Str) (sub : List Value) (ab : Bool) (col : Option Bool) (dd : Option Addr) (k0 k1 k2 k3 k5 : Option Value) (mN : Str → Option Value),
   h.get? C = some (excClassObj nm qn C N bs bm hd sn sub ab col dd k0 k1 k2 k3 k5 newId) ∧ h.Ns N mN ∧ mN "__init__" = none ∧ OwnTail h bmB bm := by
 unfold PySem.W.excIn at q
 split at q
 ·rename_i dd cd sl ho
  split at q
  ·rename_i C' bm k0 k1 k2 k3 n k5 hm hs
   simp only [Bool.and_eq_true, beq_iff_eq, Bool.not_eq_true'] at q
   have q1 := q.1.1.1.1.1
   have q2 := q.1.1.1.1.2
   have q3 := q.1.1.1.2
   have q4 := q.1.1.2
   have q5 := q.1.2
   have q6 := q.2
   subst q1 q2
   cases cd with
   | mk nm bs mro ns qn hd sn sub ab col del =>
    dsimp only at hm q3 q5 q6
    subst hm q3
    have hsl : sl = #[k0, k1, k2, k3, some (.builtin n), k5] := by
     cases sl with
     | mk l => simp only at hs; rw [hs]
    subst hsl
    have nn := PySem.W.nsMap_none_of_in X q5 q6
    exact ⟨bm, ns, nm, qn, bs, hd, sn, sub, ab, col, dd, k0, k1, k2, k3, k5, _, X _ _ ho, .of_isNs (PySem.W.isNs_of_in X q5), nn, PySem.W.tail_of_in X q4⟩
  ·cases q
 ·cases q
noncomputable def tRaise (C : Addr) (E : XK) (t : TA) : TS := fun _ σ H => t σ H fun vs H1 => vs.length ≤ 3 ∧ E (.ref C) none H1
section
variable {X : Cx} {E : XK} {C : Addr} {x : Str} {np cpos pos : Pos} {e : Expr} {es : List Expr} {t : TA}
theorem Vals.len3 {vs : List V} {us : List Value} (r : Vals vs us) (h : vs.length ≤ 3) : us.length ≤ sizeLine := by
 rw [← r.length]
 exact Nat.le_trans h (by decide)
theorem ps_raise {K : PySem.W.Frag} (hK : X.K = K) (hM : MadeOk X E) (T : ExcC K C) (hg : Gl X x) (hm : X.mg x = some (.ref C)) (ha : PA X (e :: es) t) (hc : X.calm = true := by rfl) (hdb : (x == ("__debug__" : Str)) = false := by decide)
  (he : starEach (e :: es) X.env = (false, eval e X.env) :: starEach es X.env := by rfl) (hpl : (backTo cpos (starEach es X.env)).any (·.1) = false := by rfl) :
  PS X (.Raise (some (.Call (.Name x np) (e :: es) [] cpos)) none pos) (tRaise C E t) := by
 subst hK
 intro pins s σ H D I h
 obtain ⟨bm, N, nm, qn, bs, hd, sn, sub, ab, col, dd, k0, k1, k2, k3, k5, mN, hC, hn, hni, OT⟩ := exc_obj I.ok.mod.kin T.exc
 refine wpAny_Raise_call_subT (C := C) (N := N) (nm := nm) (q := qn) (bs := bs) (bm := bm) (hdct := hd) (sn := sn) (sub := sub) (ab := ab) (col := col) (dd := dd) (k0 := k0) (k1 := k1) (k2 := k2) (k3 := k3) (k5 := k5) (mN := mN) F.excBase_ValueError (OT.hasType (by decide +kernel)) (I.ok.hd hc) ?_ hni ?_
 ·rw [he]
  show (false || (backTo cpos (starEach es X.env)).any (·.1)) = false
  rw [hpl]
  rfl
 ·refine ld_glob I hg hm ⟨rfl, ?_⟩ hdb
  have h2 := ha cpos pins s σ H _ I h
  rw [he] at h2 ⊢
  refine Calls.evalArgs_plain (wpAny_mono h2 (fun us s2 q => ?_) fun _ _ y => y)
  obtain ⟨vs, H1, I1, r, q1, q2⟩ := q
  refine ⟨rfl, r.len3 q1, I1.bk _ _ hC, hn.keeps I1.bk, OT.keeps I1.bk, fun h' e' hm' => ?_⟩
  exact hM pins σ H1 s2 e' C us h' I1 hm' q2
end
end L2
set_option Elab.async false
set_option linter.all false
set_option maxRecDepth 100000
namespace L2
open PySem PySem.Spec PyProof.Rows
noncomputable def PassesS (CX : CXT) (X : Cx) (σ0 : St) (E : XK) : Prop := ∀ (pins : List (Addr × Obj)) (H : Hp) (s : Shared) (e : Value) (s' : Shared), Inv X pins σ0 H s → CX X.stack H s E e s' → X.xe e s'
noncomputable def tCallS (σ0 : St) (sp : Sp) (E : XK) (t : TA) : TE := fun σ H Q => t σ H fun vs H1 => σ = σ0 ∧ sp vs H1 Q E
section
variable {X : Cx} {CX : CXT} {k : Nat} {ps : List Str} {sp : Sp} {E : XK} {x : Str} {p pos : Pos} {e : Expr} {es : List Expr} {t : TA} {σ0 : St}
theorem pe_fnS (F : FnB X.prog X.w X.K X.mg X.base CX k x ps sp) (hr : Room k X.A) (hg : Gl X x) (hx : PassesS CX X σ0 E)
  (ha : PA X (e :: es) t) (hdb : (x == ("__debug__" : Str)) = false := by decide) (he : starEach (e :: es) X.env = (false, eval e X.env) :: starEach es X.env := by rfl) (hpl : (backTo pos (starEach es X.env)).any (·.1) = false := by rfl) :
  PE X (.Call (.Name x p) (e :: es) [] pos) (tCallS σ0 sp E t) := by
 obtain ⟨f, fd, F1, hm, hk, hb⟩ := F.ex
 intro pins s σ H Q I h
 refine wpAny_Call_Name_kw (ld_glob I hg hm ?_ hdb)
 have ha2 := ha pos pins s σ H _ I h
 refine PySem.W.callWith_K (h₀ := X.base) I.ok.mod.kin hk (thn ha2 fun us s1 z => ?_) he hpl
 obtain ⟨vs, H1, I1, r, e0, q⟩ := z
 subst e0
 refine ⟨I1.kIn, ?_⟩
 have hl : us.length = ps.length := by
  rw [← r.length]
  exact F1.len _ _ _ _ q
 have hb2 := hb s1 us I1.kIn (by rw [List.append_nil]; exact hl)
 rw [List.append_nil] at hb2
 have run := F1.run X.A X.stack s1 H1 ⟨us, []⟩ us vs Q E hr I1.env0 hb2 r q
 refine wpAny_call (codeAny_mono run fun r' s' hq => ?_)
 match r', hq with
 | .error ev, hq => exact hx pins H1 s1 ev s' I1 hq
 | .ok (.ret u), hq => exact I1.after hq
 | .ok .next, hq => exact False.elim hq
 | .ok .brk, hq => exact False.elim hq
 | .ok .cont, hq => exact False.elim hq
end
noncomputable abbrev Cx.tryIn (X : Cx) (pn : List (Addr × Obj)) (W : Value → Shared → Prop) : Cx := { X with pn := pn, xe := W }
noncomputable abbrev Cx.suite (X : Cx) (ev : Value) : Cx := { X with A := X.A.mark (some ev), calm := false, xe := fun _ _ => False }
section
variable {X : Cx} {pins pins' pn : List (Addr × Obj)} {σ : St} {H : Hp} {s : Shared} {W : Value → Shared → Prop} {ev : Value} {D : Ends} {f : Flow}
theorem Cx.Ok.tryIn (ok : X.Ok) : (X.tryIn pn W).Ok :=
 ⟨ok.mod, ok.kind, ok.glob, ok.blt, ok.above, ok.inj, ok.has, ok.cab, ok.hd, ok.frames, ok.stk, ok.exf, ok.bs, ok.bsz, ok.noex, ok.exfs, ok.funs, ok.frf⟩
theorem Cx.Ok.tryOut (ok : (X.tryIn pn W).Ok) : X.Ok :=
 ⟨ok.mod, ok.kind, ok.glob, ok.blt, ok.above, ok.inj, ok.has, ok.cab, ok.hd, ok.frames, ok.stk, ok.exf, ok.bs, ok.bsz, ok.noex, ok.exfs, ok.funs, ok.frf⟩
theorem Inv.tryIn (I : Inv X pins σ H s) : Inv (X.tryIn (X.pn ++ pins) W) [] σ H s :=
 ⟨I.ok.tryIn, I.os, I.bare, I.base, I.loc, I.cell, I.free, I.freeC, fun p hp => I.pin p (by simpa using hp), I.hok, I.len⟩
theorem Inv.tryOut (I : Inv (X.tryIn (X.pn ++ pins) W) pins' σ H s) : Inv X pins σ H s :=
 ⟨I.ok.tryOut, I.os, I.bare, I.base, I.loc, I.cell, I.free, I.freeC, fun p hp => I.pin p (List.mem_append_left _ hp), I.hok, I.len⟩
theorem SP.tryOut (h : SP (X.tryIn (X.pn ++ pins) W) pins' D f s) : SP X pins D f s := by
 match f, h with
 | .next, ⟨σ', H', I, q⟩ => exact ⟨σ', H', I.tryOut, q⟩
 | .brk, ⟨σ', H', I, q⟩ => exact ⟨σ', H', I.tryOut, q⟩
 | .cont, ⟨σ', H', I, q⟩ => exact ⟨σ', H', I.tryOut, q⟩
 | .ret u, ⟨v, σ', H', I, r, q⟩ => exact ⟨v, σ', H', I.tryOut, r, q⟩
theorem Cx.Ok.suite (ok : X.Ok) : (X.suite ev).Ok :=
 ⟨ok.mod, ok.kind, ok.glob, ok.blt, ok.above, ok.inj, ok.has, ok.cab, (fun z => nomatch z), ok.frames, ok.stk, ok.exf, ok.bs, ok.bsz, ok.noex, ok.exfs, ok.funs, ok.frf⟩
theorem Inv.suite (I : Inv X pins σ H s) : Inv (X.suite ev) pins σ H s := ⟨I.ok.suite, I.os, I.bare, I.base, I.loc, I.cell, I.free, I.freeC, I.pin, I.hok, I.len⟩
theorem Inv.unsuite (ok : X.Ok) (I : Inv (X.suite ev) pins σ H s) : Inv X pins σ H s := ⟨ok, I.os, I.bare, I.base, I.loc, I.cell, I.free, I.freeC, I.pin, I.hok, I.len⟩
theorem Inv.track {a : Addr} {o : HO} (I : Inv X pins σ H s) (hn : H a = none) (h0 : ∀ b u, X.s₀.heap.get? b = some u → b ∉ X.ex → b ≠ a) (hl : X.env.locals ≠ a) (hc : ∀ x c, X.env.cells.lookup x = some c → c ≠ a)
  (hp : ∀ p ∈ X.pn ++ pins, p.1 ≠ a) (new : ObjOk X.prog X.w (upd H a o) s.heap a o) : Inv X pins σ (upd H a o) s := by
 refine ⟨I.ok, I.os, I.bare, ⟨I.base.keep, I.base.slot, fun b u q n hx => ?_, I.base.there, fun b xs q => ?_, fun b u xs q => ?_, fun b ps q => ?_⟩, I.loc, I.cell, ?_, fun x c e => ?_, fun p hq => ?_, fun b u q => ?_, I.len⟩
 ·rw [upd_ne (h0 b u q hx)]
  exact I.base.free b u q n hx
 ·have z := I.base.tups b xs q
  rw [upd_ne (ne_of_none z hn)]
  exact z
 ·have z := I.base.frzs b u xs q
  rw [upd_ne (ne_of_none z hn)]
  exact z
 ·obtain ⟨more, z⟩ := I.base.tbls b ps q
  exact ⟨more, by rw [upd_ne (ne_of_none z hn)]; exact z⟩
 ·rw [upd_ne hl]
  exact I.free
 ·rw [upd_ne (hc x c e)]
  exact I.freeC x c e
 ·obtain ⟨e1, e2, e3, e4, e5⟩ := I.pin p hq
  exact ⟨e1, by rw [upd_ne (hp p hq)]; exact e2, e3, e4, e5⟩
 ·by_cases hb : b = a
  ·subst hb
   rw [upd_same] at q
   cases q
   exact new
  ·rw [upd_ne hb] at q
   exact (I.hok b u q).stay (fun c v _ z => z) (fun c z => by rw [upd_ne (ne_of_none z hn)]; exact z) fun c xs z => by rw [upd_ne (ne_of_none z hn)]; exact z
theorem gone_ok {M : Model} {A : Around} {E : Value → Shared → Prop} {i : Nat} {n : Str} {pos : Pos} {Q : Unit → Shared → Prop} (I : Inv X pins σ H s) (hN : X.N.Nodup) (hi : X.N[i]? = some n) (hk : X.env.scope.names.lookup n = some .local)
  (h : ∀ s', Inv X pins (σ.set i none) H s' → Q () s') : wpAny M A (do bindName X.env n .none; unbindBehindTheSuite X.env n pos) Q E s := by
 obtain ⟨m, hn, hl⟩ := id I.loc
 have hcls : (X.env.scope.kind == .class || (X.env.scope.kind == .module && X.env.locals != X.env.globals)) = false := by rw [I.ok.kind]; rfl
 have hiσ : i < σ.length := by rw [I.len]; exact (List.getElem?_eq_some_iff.mp hi).1
 refine wpAny_nameGoes_keeps hk hn hcls fun h' v hn' hs => ?_
 obtain ⟨oL, _, _, hoL, _⟩ := id hn
 have other : ∀ b, b ≠ X.env.locals → h'.get? b = s.heap.get? b := fun b hb => hs.2 b hb
 have old : ∀ b o, X.s₀.heap.get? b = some o → b ≠ X.env.locals := fun b o q => Nat.ne_of_lt (Nat.lt_of_lt_of_le (Heap.lt_size q) I.ok.above)
 have ntr : ∀ b u, H b = some u → b ≠ X.env.locals := fun b u q z => by
  rw [z, I.free] at q
  cases q
 refine h _ ⟨I.ok, I.os, I.bare, ⟨fun b o e n hb hx => ?_, fun b o e n hb hx => ?_, I.base.free, fun b o e hx => ?_, I.base.tups, I.base.frzs, I.base.tbls⟩, ⟨_, hn', fun j y v' e1 e2 e3 => ?_⟩, fun y c e => ?_, I.free, I.freeC, fun p hp => ?_, fun b ob e => ?_, by simpa using I.len⟩
 ·exact (other b (old b o e)).trans (I.base.keep b o e n hb hx)
 ·obtain ⟨sl, e1⟩ := I.base.slot b o e n hb hx
  exact ⟨sl, (other b (old b o e)).trans e1⟩
 ·obtain ⟨o', e1⟩ := I.base.there b o e hx
  exact ⟨o', (other b (old b o e)).trans e1⟩
 ·by_cases hj : j = i
  ·subst hj
   rw [List.getElem?_set_self hiσ] at e2
   cases e2
  ·rw [List.getElem?_set_ne (Ne.symm hj)] at e2
   obtain ⟨u', r', q⟩ := hl j y v' e1 e2 e3
   refine ⟨u', r', ?_⟩
   rcases q with ⟨k, e⟩ | ⟨k, c, e, z⟩
   ·refine .inl ⟨k, ?_⟩
    have ne : y ≠ n := fun e => hj (nodup_ix hN e1 (e ▸ hi))
    simp [ne, e]
   ·exact .inr ⟨k, c, e, z.sameBut hs (I.cne y c e)⟩
 ·obtain ⟨w', z⟩ := I.cell y c e
  exact ⟨w', z.sameBut hs (I.cne y c e)⟩
 ·obtain ⟨e, n, ne, nf, d⟩ := I.pin p hp
  exact ⟨(other p.1 ne).trans e, n, ne, nf, d⟩
 ·refine (I.hok b ob e).stay (fun c w' hc q => (other c ?_).trans q) (fun _ q => q) fun _ _ q => q
  rcases hc with z | z
  ·rw [z]; exact ntr b ob e
  ·exact ntr c _ z
end
noncomputable def goneEnds (D : Ends) (i : Nat) : Ends := { nx := fun σ H => D.nx (σ.set i none) H, rt := D.rt, bk := fun σ H => D.bk (σ.set i none) H, ct := fun σ H => D.ct (σ.set i none) H }
noncomputable def tryE (K : PySem.W.Frag) (cD : Addr) (i : Nat) (th : TS) (D : Ends) (σ : St) : XK := fun cls od H' => ∃ C, cls = .ref C ∧ ExcB K C ∧ PySem.W.exmOne K (.ref C) (.ref cD) = some true ∧
 ∀ e, H' e = none → th (goneEnds D i) (σ.set i (some (.ref e))) (upd H' e (excD e C od))
noncomputable def tTry (K : PySem.W.Frag) (cD : Addr) (i : Nat) (tb : XK → St → TS) (th : TS) : TS := fun D σ H => tb (tryE K cD i th D σ) σ D σ H
section
variable {X : Cx} {body suite : List Stmt} {b₀ : Stmt} {x n : Str} {np hpos pos : Pos} {i : Nat} {cD : Addr} {tb : XK → St → TS} {th : TS} {K : PySem.W.Frag}
theorem excD_ok {P : Program} {w : World} {H : Hp} {h : Heap} {e C : Addr} {od : Option Addr} (x : IsExcD e C od h) : ObjOk P w H h e (excD e C od) := by
 refine ⟨x, ?_, fun h1 h2 y k => ?_⟩
 ·obtain ⟨o, vs, q, _⟩ := x
  exact ⟨o, q⟩
 ·obtain ⟨o, vs, q, r⟩ := y
  exact ⟨o, vs, k o q, r⟩
end
end L2
namespace L2
open PySem PySem.Spec PyProof.Rows
theorem FnB.imp {P : Program} {w : World} {K : PySem.W.Frag} {mg : Str → Option Value} {base : Heap} {CX : CXT} {k : Nat} {x : Str} {ps : List Str} {sp sp' : Sp} (F : FnB P w K mg base CX k x ps sp) (h : ∀ vs H Q E, sp' vs H Q E → sp vs H Q E) : FnB P w K mg base CX k x ps sp' := by
 obtain ⟨f, fd, h1, h2, h3, h4⟩ := F.ex
 exact ⟨f, fd, h1.imp h, h2, h3, h4⟩
section
variable {P : Program} {w : World} {K : PySem.W.Frag} {mg : Str → Option Value} {base : Heap} {x qual : Str} {st : Stmt} {f : Addr} {fd : FuncData} {N ps : List Str} {k : Nat} {sp : Sp}
theorem okE (F : Fun K x qual st f fd) (S : FnScope N ps (defScope st)) (len : ∀ vs H Q E, sp vs H Q E → vs.length = ps.length)
  (hb : ∀ (cdv : Value) (A : Around) (outer : List Env) (s : Shared) (H : Hp) (vs : List V) (Q : VK) (E : XK), Room k (A.deeper (envOfC qual (defScope st) s.heap.objs.size f cdv)) → sp vs H Q E →
   ∃ t, PSs (cxOf (CXE P w) P w K mg base N qual (defScope st) f cdv A outer s H E) (defBody st) t ∧ t { nx := fun _ H' => Q .non H', rt := Q } (start N vs) H) : FnOk P w K mg base (CXE P w) (k + 1) f fd ps sp := by
 have e := F.ex
 obtain ⟨oc, od, kV, doc, pm, an, cdv, ct, osl, e, lk, hcd⟩ := e
 subst e
 exact fn_of lk hcd S len (hb cdv)
theorem okN (F : Fun K x qual st f fd) (S : FnScope N ps (defScope st)) (len : ∀ vs H Q E, sp vs H Q E → vs.length = ps.length)
  (hb : ∀ (cdv : Value) (A : Around) (outer : List Env) (s : Shared) (H : Hp) (vs : List V) (Q : VK) (E : XK), Room k (A.deeper (envOfC qual (defScope st) s.heap.objs.size f cdv)) → sp vs H Q E →
   ∃ t, PSs (cxOf (CXE P w) P w K mg base N qual (defScope st) f cdv A outer s H E).nox (defBody st) t ∧ t { nx := fun _ H' => Q .non H', rt := Q } (start N vs) H) : FnOk P w K mg base (CXE P w) (k + 1) f fd ps sp :=
 okE F S len fun cdv A outer s H vs Q E hr h => by
  obtain ⟨t, h1, h2⟩ := hb cdv A outer s H vs Q E hr h
  exact ⟨t, h1.nox, h2⟩
end
theorem boot_ValueError : bootBuiltins "ValueError" = some (.type "ValueError") := by decide +kernel
theorem rIsiX_t {K : PySem.W.Frag} {a C : Addr} {od : Option Addr} {T : String} {b : Bool} {H : Hp} {Q : VK} (h1 : H a = some (excD a C od)) (h2 : ExcB K C) (h3 : PySem.W.kitOne K (.ref C) (.type T) = some b) (h4 : Q (.bl b) H) : rIsiX K [.ref a, .ty T] H Q := ⟨a, C, od, rfl, h1, h2, .inr ⟨T, b, rfl, h3, h4⟩⟩
end L2
set_option Elab.async false
set_option linter.all false
set_option maxRecDepth 100000
set_option Elab.async false
set_option linter.all false
set_option maxRecDepth 100000
namespace L2
open PySem PySem.Spec PyProof.Rows
section
variable {X : Cx}
theorem zip_inv {X : Cx} {pins : List (Addr × Obj)} {σ : St} {H : Hp} {s : Shared} {h' : Heap} {tk : Nat} {wr : List Addr} {T : Addr} {x y : V} {u v : Value} (I : Inv X pins σ H s) (hf : ∀ b ∈ wr, FpOk X pins H b) (hT : s.heap.objs.size ≤ T)
  (ht : h'.IsTuple T #[u, v]) (rx : RelV x u) (ry : RelV y v) (k : ∀ b o, b ∉ wr → s.heap.get? b = some o → h'.get? b = some o) : Inv X pins σ (upd H T (.tup [x, y])) { s with heap := h', toks := tk } := by
 have hn : H T = none := I.hok.fresh hT
 have tr : ∀ b w, H b = some w → b ∉ wr := fun b w e z => by rw [(hf b z).1] at e; cases e
 refine I.step (g' := s.gens) (d' := s.drawn) (ch := wr) (fun b hb => ?_) (fun b o _ _ hc e _ => k b o hc e) (fun b o _ _ hc e _ => ⟨o.slots, k b o hc e⟩) (fun b o hc e n => ?_) (fun b o hc e => ⟨o, k b o hc e⟩) (fun b xs e => ?_) (fun b o w e => ?_) (fun b ps e => ?_) (fun m hm => ?_) (fun b w e => ?_) I.bare
 ·obtain ⟨f0, f1, f2, f3, f4, f5⟩ := hf b hb
  exact ⟨f3, f1, f4, f5⟩
 ·rw [upd_ne (Nat.ne_of_lt (Nat.lt_of_lt_of_le (Heap.lt_size e) hT))]
  exact n
 ·rw [upd_ne (ne_of_none e hn)]
  exact e
 ·rw [upd_ne (ne_of_none e hn)]
  exact e
 ·exact ⟨#[], by rw [upd_ne (ne_of_none e hn), e]; simp⟩
 ·obtain ⟨o, es, ep, ho, r⟩ := hm
  exact ⟨o, es, ep, k _ o (fun z => (hf _ z).2.1 rfl) ho, r⟩
 ·by_cases hb : b = T
  ·subst hb
   rw [upd_same] at e
   cases e
   exact ⟨show 2 ≤ sizeLine by decide, [u, v], .cons rx (.cons ry .nil), ht⟩
  ·rw [upd_ne hb] at e
   refine (I.hok b w e).stay (fun c z hc q => k c z ?_ q) (fun c q => by rw [upd_ne (ne_of_none q hn)]; exact q) fun c xs q => by rw [upd_ne (ne_of_none q hn)]; exact q
   rcases hc with rfl | hc
   ·exact tr _ _ e
   ·exact tr _ _ hc
end
end L2
set_option Elab.async false
set_option linter.all false
set_option maxRecDepth 100000
namespace L2
open PySem PySem.Spec PyProof.Rows
noncomputable def tRaise0 (C : Addr) (E : XK) : TS := fun _ _ H => E (.ref C) none H
end L2
set_option Elab.async false
set_option linter.all false
set_option maxRecDepth 100000
open PySem PySem.Spec PyProof.Rows
namespace L2
noncomputable abbrev veB : List Value := [.type "ValueError", .type "Exception", .type "BaseException", .type "object"]
theorem made_two {h : Heap} {C : Addr} {rest : List Value} : h.MadeExcOf ((h.push { cls := .type "tuple", data := .seq rest.toArray }).push
   { cls := .ref C, data := .fields #[.ref h.objs.size, .none, .none, .none, .bool false, .none] }) (h.objs.size + 1) (.ref C) rest := by
 have e1 : (h.push { cls := .type "tuple", data := .seq rest.toArray }).objs.size = h.objs.size + 1 := Heap.size_push _ _
 refine ⟨fun b o e => Heap.get?_push_of_some _ (Heap.get?_push_of_some _ e), Heap.get?_none_of_le (Nat.le_succ _), h.objs.size, ?_, Heap.get?_none_of_le (Nat.le_refl _), ?_⟩
 ·rw [← e1]
  exact Heap.get?_push_size _ rfl
 ·exact Heap.get?_push_of_some _ (Heap.get?_push_size _ rfl)
theorem type_call_init {prog : Program} {w : World} {A : Around} {E : Value → Shared → Prop} {h : Heap} {g : Array GenState} {d : Drawn} {t : Nat} {os : OsState} {nm q : Str} {C N : Addr} {bs bm : List Value} {hdct : Bool} {sn : List Str} {sub : List Value} {ab : Bool} {col : Option Bool}
  {dd : Option Addr} {k0 k1 k2 k3 k5 : Option Value} (OT : OwnTail h veB bm) {mN : Str → Option Value} {rest : List Value} {fI : Addr} {oI : Obj} {Q : PySem.Fin → Shared → Prop}
  (hC : h.get? C = some (excClassObj nm q C N bs bm hdct sn sub ab col dd k0 k1 k2 k3 k5 "ValueError.__new__")) (hN : h.Ns N mN) (hi : mN "__init__" = some (.ref fI)) (hf : h.get? fI = some oI) (hcf : oI.cls = .type "function")
  (hq : ∀ (h' : Heap) (e : Addr), h.MadeExcOf h' e (.ref C) rest → wpAny (model prog w) A (call (.ref fI) (.ref e :: rest)) (fun r s' => r = .none ∧ Q (.done (.ret (.ref e))) s') E ⟨h', g, d, t, os⟩)
  (hl : rest.length ≤ sizeLine) : wpAny (model prog w) A (Builtin.«type.__call__» ⟨.ref C :: rest, []⟩) Q E ⟨h, g, d, t, os⟩ := by
 have hne : (Value.ref C == Value.type "type") = false := by rfl
 have FB := F.excBase_ValueError
 unfold Builtin.«type.__call__»
 dsimp only
 rw [hne, if_neg Bool.false_ne_true]
 refine wpAny_bind (wpAny_mroOf_exc hC ?_)
 rw [if_neg (by simp)]
 refine wpAny_bind (wpAny_madeBy_exc hC ?_)
 refine wpAny_bind (wpAny_pure ?_)
 refine wpAny_bind (wpAny_holding ?_)
 refine wpAny_call (codeAny_call_builtin_code (Code.quiet_builtin _ (by decide +kernel)) ?_)
 refine wpAny_check_new_subT FB OT hC ?_
 refine codeAny_exc_new_subT FB OT hC ?_ hl
 have M := made_two (h := h) (C := C) (rest := rest)
 have hC2 := M.keeps _ _ hC
 have OT2 := OT.keeps M.keeps
 have hN2 := hN.keeps M.keeps
 obtain ⟨t0, he, ht0, htt⟩ := M.there
 dsimp only
 refine wpAny_bind ?_
 unfold isInstance
 refine wpAny_bind ?_
 have L0 : PySem.W.Looks (model prog w) _ (typeOf (.ref (h.objs.size + 1))) (.ref C) := (PySem.W.Looks.ld he).andThen .now
 refine L0.at ?_
 refine wpAny_isSubtype_exc hC2 ?_
 rw [show (Value.ref C :: bm).contains (Value.ref C) = true by simp, if_neg (by decide)]
 refine wpAny_bind (wpAny_holding ?_)
 unfold callSpecial? specialOf
 refine wpAny_bind (wpAny_bind (L0.at ?_))
 refine wpAny_typeLookup_tail hC2 hN2 OT2 FB.mroIs FB.init.lookup ?_
 rw [hi]
 dsimp only
 refine wpAny_holding ?_
 unfold bindSpecial
 have L1 : PySem.W.Looks (model prog w) _ (typeOf (.ref fI)) oI.cls := (PySem.W.Looks.ld (M.keeps _ _ hf)).andThen .now
 refine wpAny_bind (wpAny_bind (L1.at ?_))
 rw [hcf]
 refine wpAny_pure ?_
 refine wpAny_bind ?_
 refine wpAny_mono (hq _ _ M) (fun r s' hr => ?_) fun _ _ z => z
 obtain ⟨rfl, hr⟩ := hr
 exact wpAny_pure (wpAny_pure hr)
end L2
namespace L2
variable {prog : Program} {w : World} {A : Around} {E : Value → Shared → Prop} {h : Heap} {g : Array GenState} {d : Drawn} {t : Nat} {os : OsState} {nm q : Str} {C N : Addr} {bs bm : List Value} {hdct : Bool} {sn : List Str} {sub : List Value} {ab : Bool} {col : Option Bool}
  {dd : Option Addr} {k0 k1 k2 k3 k5 : Option Value}
theorem call_init (OT : OwnTail h veB bm) {mN : Str → Option Value} {rest : List Value} {fI : Addr} {oI : Obj} {Q : Value → Shared → Prop}
  (hC : h.get? C = some (excClassObj nm q C N bs bm hdct sn sub ab col dd k0 k1 k2 k3 k5 "ValueError.__new__")) (hN : h.Ns N mN) (hi : mN "__init__" = some (.ref fI)) (hf : h.get? fI = some oI) (hcf : oI.cls = .type "function")
  (hq : ∀ (h' : Heap) (e : Addr), h.MadeExcOf h' e (.ref C) rest → wpAny (model prog w) (A.under (.builtin "type.__call__" ⟨.ref C :: rest, []⟩)) (call (.ref fI) (.ref e :: rest)) (fun r s' => r = .none ∧ Q (.ref e) s') E ⟨h', g, d, t, os⟩)
  (hl : rest.length ≤ sizeLine) : wpAny (model prog w) A (call (.ref C) rest) Q E ⟨h, g, d, t, os⟩ := by
 refine wpAny_call (codeAny_of_tree ?_)
 show wpAny _ _ (callAny (.ref C) ⟨rest, []⟩) _ _ _
 unfold callAny
 dsimp only
 refine wpAny_bind (wpAny_load hC ?_)
 dsimp only
 unfold callAny.viaDunder
 have L0 : PySem.W.Looks (model prog w) h (typeOf (.ref C)) (.type "type") := (PySem.W.Looks.ld hC).andThen .now
 refine wpAny_bind ?_
 unfold specialOf
 refine wpAny_bind (L0.at ?_)
 rw [tc_lookup]
 refine wpAny_pure ?_
 dsimp only
 rw [tc_bind]
 refine wpAny_bind (wpAny_pure ?_)
 dsimp only
 have hp : callAny.plainCallee (.builtin "type.__call__") = pure true := by rfl
 rw [hp]
 refine wpAny_bind (wpAny_pure ?_)
 rw [if_pos rfl]
 refine wpAny_pure ⟨rfl, ?_⟩
 refine codeAny_call_builtin_code (Code.quiet_builtin _ (by decide +kernel)) ?_
 refine wpAny_check_type_call_sub hC ?_
 refine codeAny_builtin entry_typeCall ?_
 refine type_call_init OT hC hN hi hf hcf (fun h' e M => ?_) hl
 exact wpAny_mono (hq h' e M) (fun r s' hr => ⟨hr.1, hr.2⟩) fun _ _ z => z
end L2
set_option Elab.async false
set_option linter.all false
set_option maxRecDepth 100000
open PySem PySem.Spec PyProof.Rows
namespace L2
noncomputable abbrev veInit : Value := .builtin "ValueError.__init__"
theorem wd_type : typeOf veInit = pure (.type "wrapper_descriptor") := by
 show builtinType "ValueError.__init__" = _
 unfold builtinType
 have h1 : withoutEnding? "ValueError.__init__" "#opaque" = none := by decide +kernel
 have h2 : withoutEnding? "ValueError.__init__" "#data" = none := by decide +kernel
 have h3 : builtinKind "ValueError.__init__" = some .slot := by decide +kernel
 rw [h1, h2, h3]
 rfl
theorem wd_find : fastLookup "wrapper_descriptor" "__get__" = some (some (.builtin "wrapper_descriptor.__get__")) := by decide +kernel
theorem wd_entry : entryFor table "wrapper_descriptor.__get__" = some Builtin.«wrapper_descriptor.__get__» := entryFor_of_tree (by kernel_rfl)
theorem wd_plain : plainId "wrapper_descriptor.__get__" = true := by decide +kernel
theorem wd_args (a b c : Value) : argsOk "wrapper_descriptor.__get__" { pos := [a, b, c] } := by kernel_rfl
theorem wd_kind : builtinKind "wrapper_descriptor.__get__" = some .slot := by decide +kernel
theorem wd_split : splitId "wrapper_descriptor.__get__" = some ("wrapper_descriptor", "__get__") := by decide +kernel
theorem wd_self : isInstance veInit (.type "wrapper_descriptor") = pure true := by
 unfold isInstance
 rw [wd_type]
 kernel_rfl
section
variable {prog : Program} {w : World} {A : Around} {E : Value → Shared → Prop} {h : Heap} {g : Array GenState} {d : Drawn} {t : Nat} {os : OsState} {e C : Addr} {oe : Obj}
theorem wpAny_eq_pure {α : Type} {M : Model} {x : Sem α} {a : α} {Q : α → Shared → Prop} {s : Shared} (h : x = pure a) (q : Q a s) : wpAny M A x Q E s := h ▸ wpAny_pure q
theorem wd_run {Q : Value → Shared → Prop} (hoe : h.get? e = some oe) (hce : oe.cls = .ref C) (hs : PySem.W.Looks (model prog w) h (isSubtype (.ref C) (.type "ValueError")) true)
  (hq : Q (.ref h.objs.size) ⟨h.push { cls := .type "method-wrapper", data := .fields #[veInit, .ref e] }, g, d, t, os⟩) :
  wpAny (model prog w) A (call (.builtin "wrapper_descriptor.__get__") [veInit, .ref e, .ref C]) Q E ⟨h, g, d, t, os⟩ := by
 refine wpAny_call (codeAny_call_builtin wd_plain wd_entry ?_)
 simp only [checkBuiltinCall, wd_kind, wd_split]
 refine wpAny_bind ?_
 rw [wd_self]
 refine wpAny_pure ?_
 rw [if_neg (by decide)]
 refine wpAny_eq_pure (wd_args veInit (.ref e) (.ref C)) ?_
 unfold Builtin.«wrapper_descriptor.__get__»
 refine wpAny_bind (wpAny_pure ?_)
 dsimp only
 have hcut : ".".intercalate ("ValueError.__init__".cutAt '.').dropLast = "ValueError" := by decide +kernel
 have hs' : PySem.W.Looks (model prog w) h (isSubtype oe.cls (Value.type (".".intercalate ("ValueError.__init__".cutAt '.').dropLast))) true := by
  rw [hcut, hce]
  exact hs
 refine fun Γ p hΓ => ⟨oe, hoe, ?_⟩
 refine (wpAny_bind (wpAny_bind (hs'.at ?_)) : wpAny (model prog w) A.in1 ((isSubtype oe.cls (Value.type (".".intercalate ("ValueError.__init__".cutAt '.').dropLast)) >>= _) >>= _) _ _ ⟨h, g, d, t, os⟩) Γ p hΓ
 rw [if_neg (by decide)]
 refine wpAny_pure ?_
 refine wpAny_bind ?_
 show wpAny (model prog w) A.in1 (newObj (.type "method-wrapper") (.fields #[veInit, .ref e])) _ _ _
 refine wpAny_newObj_type ?_ (by show 2 ≤ _; decide)
 exact wpAny_pure hq
end
end L2
namespace L2
section
variable {prog : Program} {w : World} {A : Around} {E : Value → Shared → Prop} {h : Heap} {g : Array GenState} {d : Drawn} {t : Nat} {os : OsState} {e C so : Addr} {oe : Obj} {K : PySem.W.Frag}
 {nm q : Str} {N : Addr} {bs bm : List Value} {hdct : Bool} {sn : List Str} {sub : List Value} {ab : Bool} {col : Option Bool} {dd : Option Addr} {k0 k1 k2 k3 k5 : Option Value} {nid : String}
theorem super_ga {tk : Tok} {Q : PySem.Fin → Shared → Prop} (X : K.In h) (hso : h.get? so = some { cls := .type "super", data := .fields #[.ref C, .ref e, .ref C] }) (hC : h.get? C = some (excClassObj nm q C N bs bm hdct sn sub ab col dd k0 k1 k2 k3 k5 nid))
  (hal : PySem.W.alongIn K "__init__" bm = some (some veInit)) (hop : PySem.W.Looks (model prog w) h (opaqueClassAbove (.ref C)) none) (hoe : h.get? e = some oe) (hce : oe.cls = .ref C) (hs : PySem.W.Looks (model prog w) h (isSubtype (.ref C) (.type "ValueError")) true) (hne : e ≠ C)
  (hq : Q (.done (.ret (.ref h.objs.size))) ⟨h.push { cls := .type "method-wrapper", data := .fields #[veInit, .ref e] }, g, d, t, os⟩) :
  wpAny (model prog w) A (Builtin.«super.__getattribute__» ⟨[.ref so, .str "__init__" tk], []⟩) Q E ⟨h, g, d, t, os⟩ := by
 unfold Builtin.«super.__getattribute__»
 dsimp only [asStr?]
 refine wpAny_bind (wpAny_pure ?_)
 rw [if_neg (by decide)]
 refine wpAny_bind (wpAny_pure ?_)
 dsimp only
 refine wpAny_bind (wpAny_field (x := .ref C) hso rfl rfl ?_)
 refine wpAny_bind (wpAny_field (x := .ref e) hso rfl rfl ?_)
 refine wpAny_bind (wpAny_field (x := .ref C) hso rfl rfl ?_)
 rw [if_neg (by rw [show (Value.ref C == Value.none) = false from rfl]; decide)]
 refine wpAny_bind (ks_wpAny_notOpaque hop ?_)
 rw [if_neg (by rw [show (Value.ref C == Value.type "module") = false from rfl]; decide)]
 refine wpAny_bind (wpAny_mroOf_exc hC ?_)
 have hdr : List.drop 1 (List.dropWhile (fun x => x != Value.ref C) (Value.ref C :: bm)) = bm := by
  rw [List.dropWhile_cons, if_neg (by simp)]
  rfl
 rw [hdr]
 refine wpAny_bind ?_
 refine ks_forIn_along X (fun _ _ => rfl) rfl ?_ hal
 dsimp only
 rw [wd_type]
 refine wpAny_bind (wpAny_pure ?_)
 have L1 : PySem.W.Looks (model prog w) h (typeLookup (.type "wrapper_descriptor") "__get__") (some (.builtin "wrapper_descriptor.__get__")) := PySem.W.looks_findIn X wd_find
 refine wpAny_bind (L1.at ?_)
 dsimp only
 have hb : (Value.ref e == Value.ref C) = false := by
  simpa using hne
 rw [hb, if_neg Bool.false_ne_true]
 refine wpAny_bind (wpAny_holding (wd_run hoe hce hs ?_))
 exact wpAny_bind (wpAny_pure (wpAny_pure (wpAny_pure hq)))
theorem super_meth {pl : Sem Bool} {Q : Value × List Value → Shared → Prop} (X : K.In h) (hso : h.get? so = some { cls := .type "super", data := .fields #[.ref C, .ref e, .ref C] }) (hC : h.get? C = some (excClassObj nm q C N bs bm hdct sn sub ab col dd k0 k1 k2 k3 k5 nid))
  (hal : PySem.W.alongIn K "__init__" bm = some (some veInit)) (hop : PySem.W.Looks (model prog w) h (opaqueClassAbove (.ref C)) none) (hoe : h.get? e = some oe) (hce : oe.cls = .ref C) (hs : PySem.W.Looks (model prog w) h (isSubtype (.ref C) (.type "ValueError")) true) (hne : e ≠ C)
  (hq : Q (.ref h.objs.size, []) ⟨h.push { cls := .type "method-wrapper", data := .fields #[veInit, .ref e] }, g, d, t + 1, os⟩) :
  wpAny (model prog w) A (getMethod (.ref so) "__init__" pl) Q E ⟨h, g, d, t, os⟩ := by
 have L0 : PySem.W.Looks (model prog w) h (typeOf (.ref so)) (.type "super") := (PySem.W.Looks.ld hso).andThen .now
 unfold getMethod specialOf
 refine wpAny_bind (wpAny_bind (L0.at ?_))
 refine wpAny_eq_pure F.ks_slot_super_ga.lookup ?_
 dsimp only
 rw [if_pos F.ks_canon_super_ga]
 unfold getAttr
 refine wpAny_bind (wpAny_bind (wpAny_mkText ?_))
 unfold getAttrBy
 refine wpAny_holding (wpAny_bind (L0.at ?_))
 refine wpAny_bind (wpAny_eq_pure F.ks_slot_super_ga.lookup ?_)
 dsimp only
 rw [if_neg (by decide)]
 unfold getAttrByItsOwn hookBefore
 rw [if_neg (by decide)]
 refine wpAny_bind (wpAny_pure ?_)
 refine wpAny_bind (wpAny_attempt (wpAny_holding ?_))
 unfold callGetattribute
 rw [if_neg (by decide)]
 unfold boundAndCalled
 rw [F.ks_slot_super_ga.bind]
 refine wpAny_bind (wpAny_pure ?_)
 refine wpAny_call_entry F.ks_slot_super_ga ⟨_, hso, rfl⟩ F.ks_entry_super_ga ?_ (F.ks_gaArgs_super _ _)
 refine super_ga X hso hC hal hop hoe hce hs hne ?_
 exact ⟨_, rfl, wpAny_pure (wpAny_pure hq)⟩
end
end L2
namespace L2
section
variable {prog : Program} {w : World} {A : Around} {E : Value → Shared → Prop} {h : Heap} {g : Array GenState} {d : Drawn} {t : Nat} {os : OsState} {e C so : Addr} {oe : Obj} {K : PySem.W.Frag}
theorem printed_ok {e C : Addr} {oe oC : Obj} {cdC : ClassData} {b : Bool} {full short : String} {mc : Manifest.Machinery} {ps : List Manifest.Param} {Q : String → Shared → Prop} (hC : h.get? C = some oC) (hcC : oC.data = .cls cdC) (hoe : h.get? e = some oe) (hce : oe.cls = .ref C)
  (hq : ∀ x, Q x ⟨h, g, d, t, os⟩) : wpAny (model prog w) A (Bind.printed "*" b { machinery := mc, full := full, short := short, receiver := .self, params := ps } (some (.ref e))) Q E ⟨h, g, d, t, os⟩ := by
 have L0 : PySem.W.Looks (model prog w) h (typeOf (.ref e)) (.ref C) := hce ▸ (PySem.W.Looks.ld hoe).andThen .now
 unfold Bind.printed
 rw [if_neg (by decide)]
 dsimp only
 unfold Bind.receiverType
 dsimp only
 rw [if_neg (by decide)]
 refine wpAny_bind (L0.at ?_)
 unfold typeNameWhole classData
 refine wpAny_bind (wpAny_bind (wpAny_bind (wpAny_load hC ?_)))
 rw [hcC]
 exact wpAny_pure (wpAny_pure (wpAny_pure (hq _)))
theorem mw_call {mw e t0 : Addr} {arg : Value} {C : Addr} {oC : Obj} {cdC : ClassData} (hC : h.get? C = some oC) (hcC : oC.data = .cls cdC) {Q : Value → Shared → Prop} (hmw : h.get? mw = some { cls := .type "method-wrapper", data := .fields #[veInit, .ref e] }) (hoe : h.get? e = some { cls := .ref C, data := .fields #[.ref t0, .none, .none, .none, .bool false, .none] })
  (hq : ∀ h', (∀ b o, b ≠ e → h.get? b = some o → h'.get? b = some o) → h'.get? e = some { cls := .ref C, data := .fields #[.ref h.objs.size, .none, .none, .none, .bool false, .none] } → h.objs.size ≤ h'.objs.size → Q .none ⟨h', g, d, t, os⟩) :
  wpAny (model prog w) A (call (.ref mw) [arg]) Q E ⟨h, g, d, t, os⟩ := by
 have FB := F.excBase_ValueError
 refine wpAny_call (codeAny_of_tree ?_)
 show wpAny _ _ (callAny (.ref mw) ⟨[arg], []⟩) _ _ _
 unfold callAny
 dsimp only
 refine wpAny_bind (wpAny_load hmw ?_)
 dsimp only
 rw [if_pos (by decide)]
 show wpAny _ _ (do
  checkBoundCall "ValueError.__init__" ⟨[.ref e, arg], []⟩
  again (.builtin "ValueError.__init__" ⟨[.ref e, arg], []⟩)) _ _ _
 refine wpAny_bind ?_
 unfold checkBoundCall
 rw [FB.initRow]
 dsimp only
 rw [FB.initKind]
 dsimp only
 rw [if_pos (by decide)]
 refine wpAny_mono (?_ : wpAny _ _ _ (fun _ s' => s' = ⟨h, g, d, t, os⟩) _ _) ?k (fun _ _ z => z)
 case k =>
  rintro _ _ rfl
  refine wpAny_pure ⟨Code.quiet_builtin _ (by decide +kernel), ?_⟩
  refine codeAny_builtin FB.initEntry ?_
  unfold Builtin.«BaseException.__init__»
  dsimp only
  rw [if_neg (by decide)]
  refine wpAny_bind (wpAny_newTuple ?_ (by show 1 ≤ _; decide))
  unfold Builtin.BaseException.bexcPut
  have h1 := Heap.get?_push_of_some ({ cls := Value.type "tuple", data := Data.seq #[arg] } : Obj) hoe
  refine wpAny_bind (wpAny_bind (wpAny_field (x := .ref t0) h1 rfl rfl ?_))
  refine wpAny_bind (wpAny_setField h1 rfl (by show 0 < 6; decide) ?_)
  dsimp only
  unfold letGo
  refine wpAny_bind (wpAny_point ?_)
  unfold letGo
  refine wpAny_pure (wpAny_pure (hq _ (fun b o hb q => Heap.get?_update_of_ne _ (Ne.symm hb) (Heap.get?_push_of_some _ q)) ?_ ?_))
  ·rw [Heap.get?_update_self _ h1]
   ·rfl
   ·rfl
  ·rw [Heap.size_update, Heap.size_push]
   exact Nat.le_succ _
 unfold Bind.checkArgs
 dsimp only
 refine wpAny_bind (printed_ok hC hcC hoe rfl fun x => ?_)
 refine wpAny_bind (wpAny_pure ?_)
 exact wpAny_onRaise (wpAny_eq_pure (check_star_args _ _ _ _ _ _) rfl)
end
end L2
namespace L2
section
variable {prog : Program} {w : World} {A : Around} {E : Value → Shared → Prop} {h : Heap} {g : Array GenState} {d : Drawn} {t : Nat} {os : OsState} {env : Env}
theorem cw_const {mw e : Addr} {x : Str} {n : Nat} {q pos : Pos} {Q : Value → Shared → Prop} (hmw : h.get? mw = some { cls := .type "method-wrapper", data := .fields #[veInit, .ref e] })
  (hq : ∀ tk, wpAny (model prog w) A (call (.ref mw) [.str x tk]) Q E ⟨h, g, d, t + 1, os⟩) :
  wpAny (model prog w) A (callWith pos (.ref mw) [] (backTo pos (starEach [.Constant (.str x) n q] env)) []) Q E ⟨h, g, d, t, os⟩ := by
 unfold callWith
 refine wpAny_bind (wpAny_holding ?_)
 show wpAny _ _ (evalArgs (.ref mw) true [(false, eval (.Constant (.str x) n q) env)] []) _ _ _
 refine Calls.evalArgs_plain ?_
 refine Calls.spliced_cons (Calls.Constant_str ?_)
 refine Calls.spliced_nil ?_
 refine wpAny_bind (wpAny_standAt ?_)
 refine wpAny_bind ?_
 unfold keeperOf
 refine wpAny_bind (wpAny_load hmw ?_)
 dsimp only
 refine wpAny_pure ?_
 show wpAny _ _ (do
  let r ← call (.ref mw) [.str x t]
  holding [r] point
  pure r) _ _ _
 refine wpAny_bind (wpAny_mono (hq t) (fun r s' hr => ?_) fun _ _ z => z)
 exact wpAny_bind (wpAny_holding (wpAny_point (wpAny_pure hr)))
end
end L2
namespace L2
section
variable {prog : Program} {w : World} {A : Around} {E : Value → Shared → Prop} {h : Heap} {g : Array GenState} {d : Drawn} {t : Nat} {os : OsState} {env : Env} {K : PySem.W.Frag} {e C : Addr} {vs : Array Value}
 {nm q : Str} {N : Addr} {bs : List Value} {D : Addr} {sn : List Str} {sub : List Value} {ab : Bool} {col : Option Bool} {dd : Option Addr} {k0 k1 k2 k3 k5 : Option Value} {nid : String}
theorem b1 : builtinOwn "ValueError" "__setattr__" = none := by decide +kernel
theorem b2 : builtinOwn "Exception" "__setattr__" = none := by decide +kernel
theorem b3 : builtinOwn "BaseException" "__setattr__" = none := by decide +kernel
theorem b4 : builtinOwn "object" "__setattr__" = some (.builtin "object.__setattr__") := by decide +kernel
theorem b5 : Builtin.ObjectAttr.isObjects "object" (Str.toString "__setattr__") = true := by decide +kernel
theorem refuse_ok {Q : Unit → Shared → Prop} (X : K.In h) (hC : h.get? C = some (excClassObj nm q C N bs (.ref D :: veB) true sn sub ab col dd k0 k1 k2 k3 k5 nid)) (hoe : h.get? e = some { cls := .ref C, data := .fields vs }) (hq : Q () ⟨h, g, d, t, os⟩) :
  wpAny (model prog w) A (Builtin.ObjectAttr.refuseIfOverridden (.ref e) "__setattr__") Q E ⟨h, g, d, t, os⟩ := by
 have L0 : PySem.W.Looks (model prog w) h (typeOf (.ref e)) (.ref C) := (PySem.W.Looks.ld hoe).andThen .now
 unfold Builtin.ObjectAttr.refuseIfOverridden
 refine wpAny_bind (L0.at (wpAny_bind (wpAny_mroOf_exc hC ?_)))
 refine wpAny_bind ?_
 rw [List.forIn_cons]
 refine wpAny_bind (wpAny_pure ?_)
 dsimp only
 rw [List.forIn_cons]
 refine wpAny_bind (wpAny_pure ?_)
 dsimp only
 rw [List.forIn_cons]
 dsimp only
 rw [if_neg (by decide), if_neg (by decide)]
 unfold classOwn
 dsimp only
 rw [b1]
 refine wpAny_bind (wpAny_bind (wpAny_pure ?_))
 rw [if_neg (by decide)]
 refine wpAny_pure ?_
 dsimp only
 rw [List.forIn_cons]
 dsimp only
 rw [if_neg (by decide), if_neg (by decide), b2]
 refine wpAny_bind (wpAny_bind (wpAny_pure ?_))
 rw [if_neg (by decide)]
 refine wpAny_pure ?_
 dsimp only
 rw [List.forIn_cons]
 dsimp only
 rw [if_neg (by decide), if_neg (by decide), b3]
 refine wpAny_bind (wpAny_bind (wpAny_pure ?_))
 rw [if_neg (by decide)]
 refine wpAny_pure ?_
 dsimp only
 rw [List.forIn_cons]
 dsimp only
 rw [if_neg (by decide), if_neg (by decide), b4]
 refine wpAny_bind (wpAny_bind (wpAny_pure ?_))
 rw [if_pos (by rfl), b5, if_neg (by decide)]
 refine wpAny_pure ?_
 dsimp only
 exact wpAny_pure (wpAny_pure hq)
theorem exc_setattr {v : Value} {Q : Unit → Shared → Prop} (X : K.In h) (hC : h.get? C = some (excClassObj nm q C N bs (.ref D :: veB) true sn sub ab col dd k0 k1 k2 k3 k5 nid)) (hoe : h.get? e = some { cls := .ref C, data := .fields vs })
  (hst : PySem.W.findIn K (.ref C) "__setattr__" = some (some (.builtin "object.__setattr__"))) (hat : PySem.W.findIn K (.ref C) "at" = some none) (hob : PySem.W.mroIn K C (.type "object") = some true)
  (hq : ∀ (h' : Heap) (t' : Nat) (dx : Addr), (∀ b o, b ≠ e → h.get? b = some o → h'.get? b = some o) → h.get? dx = none → h'.get? e = some { cls := .ref C, dict := some dx, data := .fields vs } → h'.Ns1 dx (fun x => if x = "at" then some v else none) → Q () ⟨h', g, d, t', os⟩) :
  wpAny (model prog w) A (setAttr (.ref e) "at" v) Q E ⟨h, g, d, t, os⟩ := by
 have L0 : PySem.W.Looks (model prog w) h (typeOf (.ref e)) (.ref C) := (PySem.W.Looks.ld hoe).andThen .now
 have L1 := PySem.W.looks_findIn (M := model prog w) X hst
 have L2 := PySem.W.looks_findIn (M := model prog w) X hat
 have L3 := PySem.W.looks_mroIn (M := model prog w) X hob
 unfold setAttr
 refine wpAny_bind (wpAny_mkText ?_)
 refine wpAny_bind ?_
 unfold callSpecial? specialOf
 refine wpAny_bind (wpAny_bind (L0.at (L1.at ?_)))
 refine wpAny_holding ?_
 rw [F.slot_object_setattr.bind]
 refine wpAny_bind (wpAny_pure ?_)
 refine wpAny_bind (wpAny_call (codeAny_call_builtin F.slot_object_setattr.plain F.entry_object_setattr ?_))
 simp only [checkBuiltinCall, F.bk_object_setattr, F.sp_object_setattr]
 unfold isInstance
 refine wpAny_bind (wpAny_bind (L0.at (L3.at ?_)))
 rw [if_neg (by decide)]
 refine wpAny_eq_pure (F.args_object_setattr_3 _ _ _) ?_
 unfold Builtin.«object.__setattr__»
 dsimp only
 rw [if_neg (by decide)]
 dsimp only [List.cons_append, List.nil_append]
 refine wpAny_bind (refuse_ok X hC hoe ?_)
 refine wpAny_bind (wpAny_pure ?_)
 refine wpAny_bind (L0.at (wpAny_bind (L2.at ?_)))
 refine wpAny_bind (wpAny_pure ?_)
 dsimp only
 unfold Builtin.ObjectAttr.storeInOwnDict
 refine wpAny_bind (wpAny_pure ?_)
 rw [if_neg (by rw [show (Value.ref C == Value.type "module") = false from rfl]; decide)]
 refine wpAny_bind ?_
 show wpAny _ _ (instanceDict e true) _ _ _
 unfold instanceDict classData
 refine wpAny_bind (wpAny_loadPart hoe ?_)
 dsimp only
 refine wpAny_bind (wpAny_bind (wpAny_load hC ?_))
 dsimp only
 refine wpAny_pure ?_
 rw [if_neg (by show ¬((!true) = true); decide), if_neg (by show ¬((!true || !true) = true); decide)]
 refine wpAny_bind (wpAny_alloc ?_)
 have h1 := Heap.get?_push_of_some ({ cls := Value.type "dict", data := Data.dict #[] } : Obj) hoe
 have h2 : (h.push { cls := Value.type "dict", data := Data.dict #[] }).get? h.objs.size = some { cls := Value.type "dict", data := Data.dict #[] } := Heap.get?_push_size _ rfl
 refine wpAny_bind (wpAny_update h1 ?_)
 refine wpAny_pure ?_
 dsimp only
 have nd : h.objs.size ≠ e := Ne.symm (Nat.ne_of_lt (Heap.lt_size hoe))
 unfold Builtin.ObjectAttr.storeInDict
 refine wpAny_bind (wpAny_pure (wpAny_bind ?_))
 have h3 := Heap.get?_update_of_ne (fun o => ({ cls := o.cls, dict := some h.objs.size, data := o.data, slots := o.slots } : Obj)) (Ne.symm nd) h2
 have n0 : ((h.push { cls := Value.type "dict", data := Data.dict #[] }).update e fun o => ({ cls := o.cls, dict := some h.objs.size, data := o.data, slots := o.slots } : Obj)).Ns1 h.objs.size (fun _ => none) := ⟨_, _, _, h3, rfl, fun z hz => by simp at hz, by unfold UniqKeys; simp, fun _ => rfl⟩
 refine wpAny_nsSet1 n0 fun h' hn2 hs2 => ?_
 obtain ⟨oD, esD, epD, hoD, hdD, hcD⟩ := hn2.count (ns := ["at"]) (PySem.Within.cons "at" v (ns := []) (fun y hy => (hy rfl).elim))
 refine wpAny_bind (wpAny_lookBehind hoD (by rw [hdD]; exact pastItsLine_dict (Nat.le_trans hcD (by decide))) ?_)
 refine wpAny_pure ?_
 dsimp only
 refine wpAny_pure ?_
 dsimp only
 refine wpAny_pure ?_
 refine hq h' _ _ (fun b o hb hbo => ?_) (Heap.get?_none_of_le (Nat.le_refl _)) ?_ hn2
 ·exact hs2.2 b (Nat.ne_of_lt (Heap.lt_size hbo)) ▸ (Heap.get?_update_of_ne _ (Ne.symm hb) (Heap.get?_push_of_some _ hbo))
 ·rw [hs2.2 e (Ne.symm nd)]
  rw [Heap.get?_update_self _ h1]
  ·rfl
end
end L2
namespace L2
noncomputable abbrev initParams (p1 p2 : Pos) : Arguments := { posonlyargs := [], args := [{ arg := "self", annotation := none, pos := p1 }, { arg := "at", annotation := none, pos := p2 }], vararg := none, kwonlyargs := [], kw_defaults := [], kwarg := none, defaults := [] }
noncomputable abbrev initScope : Scope := { kind := .function, names := [("self", .local), ("at", .local), ("__class__", .free), ("super", .globalImplicit)], isGenerator := false, isCoroutine := false, more := [] }
noncomputable abbrev initBody (x : Str) (n : Nat) (q0 q1 q2 q3 q4 q5 q6 q7 q8 q9 : Pos) : List Stmt :=
 [.Expr (.Call (.Attribute (.Call (.Name "super" q0) [] [] q1) "__init__" q2) [.Constant (.str x) n q3] [] q4) q5,
  .Assign [.Attribute (.Name "self" q6) "at" q7] (.Name "at" q8) q9]
structure ExcN (prog : Program) (K : PySem.W.Frag) (C fI : Addr) : Prop where
 cls : ∃ (nm q : Str) (N D : Addr) (bs : List Value) (sn : List Str) (sub : List Value) (ab : Bool) (col : Option Bool) (dd : Option Addr) (k0 k1 k2 k3 k5 : Option Value),
  K.lookup C = some (excClassObj nm q C N bs (.ref D :: veB) true sn sub ab col dd k0 k1 k2 k3 k5 "ValueError.__new__") ∧ PySem.W.tailIn K veB (.ref D :: veB) = true ∧ PySem.W.nsOkIn K N = true ∧ PySem.W.nsIn K N "__init__" = some (some (.ref fI)) ∧
  PySem.W.alongIn K "__init__" (.ref D :: veB) = some (some veInit)
 fn : ∃ (qual : Str) (p1 p2 : Pos) (x : Str) (n : Nat) (q0 q1 q2 q3 q4 q5 q6 q7 q8 q9 : Pos) (cc cda : Addr) (od an : Option Addr) (osl ccs cds : Array (Option Value)) (kV doc pm ct ccl cdl : Value) (ccd cdd : Option Addr) (vs : Array Value) (file : Str) (tf : Tok),
  K.lookup fI = some ⟨.type "function", od, .func (PySem.W.fnX "__init__" qual (initParams p1 p2) (initBody x n q0 q1 q2 q3 q4 q5 q6 q7 q8 q9) initScope [("__class__", cc)] .none kV doc pm an (.ref cda) ct), osl⟩ ∧
  PySem.W.codeIn K (.ref cda) qual = true ∧ K.lookup cc = some ⟨ccl, ccd, .cell (some (.ref C)), ccs⟩ ∧ K.lookup cda = some ⟨cdl, cdd, .fields vs, cds⟩ ∧ vs[2]? = some (.str file tf) ∧ (prog.main.file == file) = true ∧ (prog.main.scope.names.lookup ("super" : Str)).isSome = false ∧
  (q2.endLine == q4.line) = true
 opq : PySem.W.nsIn K cStatics "thirdparty.any" = some none
 self : PySem.W.mroIn K C (.ref C) = some true
 sve : PySem.W.mroIn K C (.type "ValueError") = some true
 sob : PySem.W.mroIn K C (.type "object") = some true
 sta : PySem.W.findIn K (.ref C) "__setattr__" = some (some (.builtin "object.__setattr__"))
 nat : PySem.W.findIn K (.ref C) "at" = some none
section
variable {prog : Program} {w : World} {A : Around} {h : Heap} {g : Array GenState} {d : Drawn} {t : Nat} {os : OsState} {R : Result → Shared → Prop} {K : PySem.W.Frag} {C fI e t0 : Addr} {num : Value} {mg : Str → Option Value} {base : Heap}
theorem eval_super {env : Env} {q0 q1 q2 q3 q4 : Pos} {x : Str} {n : Nat} (hp : (q2.endLine == q4.line) = true) : eval (.Call (.Attribute (.Call (.Name "super" q0) [] [] q1) "__init__" q2) [.Constant (.str x) n q3] [] q4) env = (do
   let ov ← attributeBase (.Call (.Name "super" q0) [] [] q1) "__init__" env (eval (.Call (.Name "super" q0) [] [] q1) env)
   standAt q2.atName
   let (f, first) ← holding [ov] (getMethod ov "__init__" (do let b ← importBound (.Call (.Name "super" q0) [] [] q1) env; pure (b.getD true)))
   callWith q4 f first (backTo q4 (starEach [.Constant (.str x) n q3] env)) []) := by
 show (do
   let ov ← attributeBase (.Call (.Name "super" q0) [] [] q1) "__init__" env (eval (.Call (.Name "super" q0) [] [] q1) env)
   standAt q2.atName
   methodCall (.Call (.Name "super" q0) [] [] q1) "__init__" q2 q4 env ov 1 (backTo q4 (starEach [.Constant (.str x) n q3] env)) []) = _
 have hq : methodCallPos true (.Call (.Name "super" q0) [] [] q1) env q2 q4 = pure q4 := by
  unfold methodCallPos
  rw [hp]
  rfl
 have hf : methodCallForm 1 (backTo q4 (starEach [.Constant (.str x) n q3] env)) [] = true := rfl
 unfold methodCall
 rw [hf, hq]
 rfl
variable {nm qn : Str} {N D : Addr} {bs : List Value} {sn : List Str} {sub : List Value} {ab : Bool} {col : Option Bool} {dd : Option Addr} {k0 k1 k2 k3 k5 : Option Value}
theorem s1 {env : Env} {e cc cda : Addr} {E : Value → Shared → Prop} {q0 q1 q2 q3 q4 q5 : Pos} {x : Str} {n : Nat} {body : List Stmt} {Q : Flow → Shared → Prop} {fd : FuncData} {of oc : Obj} {ar : Arg} {vs : Array Value} {file : Str} {tf : Tok}
  {m : Str → Option Value} {t0 : Addr}
  (ksup : env.kindOf "super" = some .globalImplicit) (kcl : env.kindOf "__class__" = some .free) (kfn : env.scope.kind = .function) (kse : env.kindOf "self" = some .local) (hfn : env.func = some fI) (hf : h.get? fI = some of) (hfd : of.data = .func fd) (har : (fd.params.posonlyargs ++ fd.params.args).head? = some ar) (hself : ar.arg = "self")
  (hcode : env.code = .ref cda) (hcda : h.get? cda = some oc) (hoc : oc.data = .fields vs) (hfile : vs[2]? = some (.str file tf)) (hmain : (prog.main.file == file) = true) (hsn : (prog.main.scope.names.lookup ("super" : Str)).isSome = false)
  (hL : h.Ns env.locals m) (hm : m "self" = some (.ref e)) (hcc : env.cells.lookup ("__class__" : Str) = some cc) (hcell : h.IsCell cc (some (.ref C))) (M : Mod K mg h) (hg : env.globals = mainGlobals) (hb : env.builtins = builtinsNs) (hsup : mg "super" = none)
  (X : K.In h) (hC : h.get? C = some (excClassObj nm qn C N bs (.ref D :: veB) true sn sub ab col dd k0 k1 k2 k3 k5 "ValueError.__new__")) (hoe : h.get? e = some { cls := .ref C, data := .fields #[.ref t0, .none, .none, .none, .bool false, .none] })
  (T : ExcN prog K C fI) (hal : PySem.W.alongIn K "__init__" (.ref D :: veB) = some (some veInit)) (hne : e ≠ C)
  (hp : (q2.endLine == q4.line) = true) (hi : interactive env = false) (hsw : swapsWith (.Call (.Attribute (.Call (.Name "super" q0) [] [] q1) "__init__" q2) [.Constant (.str x) n q3] [] q4) none q5.line env = pure false)
  (hQ : ∀ (h' : Heap) (t' : Nat) (t2 : Addr), (∀ b o, b ≠ e → h.get? b = some o → h'.get? b = some o) → h'.get? e = some { cls := .ref C, data := .fields #[.ref t2, .none, .none, .none, .bool false, .none] } → Q .next ⟨h', g, d, t', os⟩) :
  PySem.wpAt (model prog w) A (.func body env) (exec (.Expr (.Call (.Attribute (.Call (.Name "super" q0) [] [] q1) "__init__" q2) [.Constant (.str x) n q3] [] q4) q5) env) Q E ⟨h, g, d, t, os⟩ := by
 have X := X
 refine ks_wpAt_Expr_any ?_ hi hsw
 refine ks_wpAt_MethodCall ?_ (eval_super hp)
 refine ks_wpAt_super_base ksup kcl (by decide) hfn hf hfd har hcode hcda hoc hfile hmain hsn ?_
 obtain ⟨mb, hb1, hb2⟩ := M.blt
 refine PySem.W.ks_loadName_global kfn ksup (Calls.loadGlobal_builtin (by rw [hg]; exact M.glob) hsup (by rw [hb]; exact hb1) (by rw [hb2 _ (by decide)]; rfl) ⟨rfl, ?_⟩)
 refine wpAny_loadName_free kfn kcl hcc hcell ?_
 rw [hself]
 refine wpAny_loadName_local kfn kse hL hm ?_
 refine ks_wpAny_isType_cls hC rfl ⟨rfl, ?_⟩
 refine ks_wpAny_call_super hC rfl hoe rfl (fun c z => nomatch z) (PySem.W.looks_mroIn X T.self) fun h' hso kp => ?_
 have X1 : K.In h' := X.keeps kp
 refine super_meth X1 hso (kp _ _ hC) hal (PySem.W.looks_opaque X1 T.opq) (kp _ _ hoe) rfl (PySem.W.looks_mroIn X1 T.sve) hne ?_
 have h2 : (h'.push { cls := .type "method-wrapper", data := .fields #[veInit, .ref e] }).get? h'.objs.size = some { cls := .type "method-wrapper", data := .fields #[veInit, .ref e] } := Heap.get?_push_size _ rfl
 refine cw_const h2 fun tk => ?_
 refine mw_call (Heap.get?_push_of_some _ (kp _ _ hC)) rfl h2 (Heap.get?_push_of_some _ (kp _ _ hoe)) fun h3 k3 he3 sz => ?_
 exact hQ h3 _ _ (fun b o hb q => k3 b o hb (Heap.get?_push_of_some _ (kp _ _ q))) he3
theorem init_run {num : Value} (T : ExcN prog K C fI) (X : K.In h) (M : Mod K mg h) (hdep : A.depth < recursionLimit) (hsup : mg "super" = none) (hKe : ∀ a o, K.lookup a = some o → a ≠ e)
  (he : h.get? e = some { cls := .ref C, data := .fields #[.ref t0, .none, .none, .none, .bool false, .none] })
  (hR : ∀ (h' : Heap) (t' : Nat) (dx t2 : Addr), (∀ b o, b ≠ e → h.get? b = some o → h'.get? b = some o) → h.get? dx = none → h'.get? e = some { cls := .ref C, dict := some dx, data := .fields #[.ref t2, .none, .none, .none, .bool false, .none] } →
   h'.Ns1 dx (fun x => if x = "at" then some num else none) → R (.ok (.ret .none)) ⟨h', g, d, t', os⟩) :
  codeAny (model prog w) A (.call (.ref fI) ⟨[.ref e, num], []⟩) R ⟨h, g, d, t, os⟩ := by
 obtain ⟨nm, q, N, D, bs, sn, sub, ab, col, dd, k0, k1, k2, k3, k5, lC, tl, nok, nin, hal⟩ := T.cls
 obtain ⟨qual, p1, p2, x, n, q0, q1, q2, q3, q4, q5, q6, q7, q8, q9, cc, cda, od, an, osl, ccs, cds, kV, doc, pm, ct, ccl, cdl, ccd, cdd, vs, file, tf, lf, lcd, lcc, lcda, hfile, hmain, hsn, hp⟩ := T.fn
 have hf := X _ _ lf
 have hC := X _ _ lC
 have hne : e ≠ C := fun z => by
  rw [z, hC] at he
  cases he
 refine ks_codeAny_call_defAt (binds := [("self", .ref e), ("at", num)]) hdep hf rfl M.nolimit (PySem.W.codeRec_of X lcd) rfl (.of_eq rfl) ?_ (fun y hy => ?_) (fun h₀ hL kp => ?_)
 ·intro y hy
  simp only [PySem.W.fnX, initScope, List.mem_cons, List.not_mem_nil, or_false] at hy
  rcases hy with rfl | rfl | rfl | rfl <;> (intro z; cases z)
 ·simp only [List.mem_cons, List.not_mem_nil, or_false] at hy
  rcases hy with rfl | rfl <;> rfl
 ·have X0 : K.In h₀ := X.keeps kp
  have M0 : Mod K mg h₀ := ⟨X0, M.glob.keeps kp, by obtain ⟨mb, z1, z2⟩ := M.blt; exact ⟨mb, z1.keeps kp, z2⟩, M.nolimit.keeps kp⟩
  refine ks_wpAt_execs_cons ?_
  refine s1 (A := A.deeper _) (fI := fI) (cda := cda) (cc := cc) (of := _) (oc := _) (fd := _) (ar := _) (vs := vs) (file := file) (tf := tf) (nm := nm) (qn := q) (N := N) (D := D) (by rfl) (by rfl) rfl (by rfl) rfl (kp _ _ hf) rfl rfl rfl rfl (X0 _ _ lcda) rfl hfile hmain hsn hL rfl rfl ⟨_, X0 _ _ lcc, rfl⟩ M0 rfl rfl hsup X0 (kp _ _ hC) (kp _ _ he) T hal hne hp rfl rfl ?_
  intro h1 t1 t2 kp1 he1
  show PySem.wpAt _ _ _ (execs [_] _) _ _ _
  have X1 : K.In h1 := fun a o la => kp1 _ _ (hKe a o la) (X0 _ _ la)
  have neL : h.objs.size ≠ e := Ne.symm (Nat.ne_of_lt (Heap.lt_size he))
  have hL1 : h1.Ns h.objs.size (fun x => List.lookup x [(("self" : Str), Value.ref e), ("at", num)].reverse) := by
   obtain ⟨o, es, ep, ho, r⟩ := hL
   exact ⟨o, es, ep, kp1 _ _ neL ho, r⟩
  refine ks_wpAt_execs_cons (ks_wpAt_Assign_Attr ?_ rfl)
  refine PySem.wpAt_of_wpAny ?_
  refine wpAny_Name (wpAny_loadName_local rfl (by rfl) hL1 rfl ?_) (by decide)
  refine wpAny_Name (wpAny_loadName_local rfl (by rfl) hL1 rfl ?_) (by decide)
  refine exc_setattr X1 (X1 _ _ lC) he1 T.sta T.nat T.sob fun h2 t3 dx k2 hdx he2 hns => ?_
  show PySem.wpAt _ _ _ (execs [] _) _ _ _
  refine PySem.wpAt_of_wpAny (wpAny_pure ?_)
  refine hR h2 t3 dx t2 (fun b o hb q => k2 b o hb (kp1 b o hb (kp b o q))) ?_ he2 hns
  cases hz : h.get? dx with
  | none => rfl
  | some o =>
   by_cases hb : dx = e
   ·rw [hb, he1] at hdx
    cases hdx
   ·rw [kp1 _ _ hb (kp _ _ hz)] at hdx
    cases hdx
end
end L2
set_option Elab.async false
set_option linter.all false
set_option maxRecDepth 100000
namespace L2
open PySem PySem.Spec PyProof.Rows
theorem HOk.none_of {P : Program} {w : World} {H : Hp} {h : Heap} {a : Addr} (ok : HOk P w H h) (e : h.get? a = none) : H a = none := by
 cases q : H a with
 | none => rfl
 | some u =>
  obtain ⟨o, ho⟩ := (ok a u q).there
  rw [e] at ho
  cases ho
theorem Inv.newly {X : Cx} {pins : List (Addr × Obj)} {σ : St} {H : Hp} {s : Shared} {h' : Heap} {t' : Nat} {a : Addr} {o : HO} (I : Inv X pins σ H s) (k : ∀ b u, s.heap.get? b = some u → h'.get? b = some u) (hn : s.heap.get? a = none)
  (new : ObjOk X.prog X.w (upd H a o) h' a o) : Inv X pins σ (upd H a o) { s with heap := h', toks := t' } := by
 have ne : ∀ b u, s.heap.get? b = some u → b ≠ a := fun b u q z => by
  rw [z, hn] at q
  cases q
 refine Inv.track (I.kept (t' := t') k) (I.hok.none_of hn) (fun b u q hx => ?_) ?_ (fun x c q => ?_) (fun p hp => ?_) new
 ·obtain ⟨o1, q1⟩ := I.base.there b u q hx
  exact ne b o1 q1
 ·obtain ⟨m, ⟨oL, es, ep, hoL, _⟩, _⟩ := I.loc
  exact ne _ _ hoL
 ·obtain ⟨v, oc, hoc, _⟩ := I.cell x c q
  exact ne _ _ hoc
 ·obtain ⟨q1, _⟩ := I.pin p hp
  exact ne _ _ q1
theorem raise_inst {M : Model} {A : Around} {E : Value → Shared → Prop} {env : Env} {nm q : Str} {C N : Addr} {bs bm : List Value} {hdct : Bool} {sn : List Str} {sub : List Value} {ab : Bool} {col : Option Bool} {dd : Option Addr} {k0 k1 k2 k3 k5 : Option Value} {newId : String} {s : Shared} {x : Sem Value} {Q : Flow → Shared → Prop}
  (hb : bm.contains (Value.type "BaseException") = true) (hh : A.handled = none)
  (hx : wpAny M A x (fun v s₁ => ∃ e oe vs, v = .ref e ∧ s₁.heap.get? C = some (excClassObj nm q C N bs bm hdct sn sub ab col dd k0 k1 k2 k3 k5 newId) ∧ s₁.heap.get? e = some oe ∧ oe.cls = .ref C ∧ oe.data = .fields vs ∧ vs[1]? = some .none ∧ E (.ref e) s₁) E s) :
  wpAny M A (raiseStmt env (some x) none) Q E s := by
 unfold raiseStmt
 refine wpAny_bind (wpAny_mono hx (fun v s1 h => ?_) fun _ _ z => z)
 obtain ⟨e, oe, vs, rfl, hC, hoe, hce, hde, hv, hE⟩ := h
 obtain ⟨h, g, d, t, os⟩ := s1
 have L0 : PySem.W.Looks M h (typeOf (.ref e)) (.ref C) := hce ▸ (PySem.W.Looks.ld hoe).andThen .now
 have L1 : PySem.W.Looks M h (typeOf (.ref C)) (.type "type") := (PySem.W.Looks.ld hC).andThen .now
 have nc : ∀ c : ClassData, oe.data ≠ .cls c := fun c z => by rw [hde] at z; cases z
 refine wpAny_bind (wpAny_pure ?_)
 refine wpAny_bind (wpAny_holding ?_)
 unfold excFromValue isExcClass
 refine wpAny_bind (wpAny_bind (ks_wpAny_isType_inst hoe nc ?_))
 rw [if_neg Bool.false_ne_true]
 refine wpAny_pure ?_
 rw [if_neg Bool.false_ne_true]
 unfold isInstance
 refine wpAny_bind (wpAny_bind (L0.at (wpAny_isSubtype_exc hC ?_)))
 rw [show (Value.ref C :: bm).contains (Value.type "BaseException") = true by simp only [List.contains_cons, hb, Bool.or_true], if_pos rfl]
 refine wpAny_pure ?_
 dsimp only
 refine wpAny_bind (ks_wpAny_isType_inst hoe nc ?_)
 rw [if_neg Bool.false_ne_true]
 unfold raisedInstance
 refine wpAny_bind (wpAny_bind (L0.at (wpAny_bind (L1.at ?_))))
 rw [if_pos (by rfl)]
 refine wpAny_pure ?_
 unfold setFlight
 refine wpAny_bind (wpAny_bind (wpAny_field hoe hde hv ?_))
 rw [if_neg (by decide)]
 refine wpAny_pure ?_
 unfold raiseNew
 refine wpAny_bind (wpAny_handled ?_)
 rw [hh]
 exact wpAny_throw hE
noncomputable def MadeOkN (X : Cx) (E : XK) : Prop := ∀ (pins : List (Addr × Obj)) (σ : St) (H : Hp) (s : Shared) (h' : Heap) (t' : Nat) (e dx C t2 : Addr) (v : V) (num : Value), Inv X pins σ H s → (∀ b o, s.heap.get? b = some o → h'.get? b = some o) → s.heap.get? e = none → s.heap.get? dx = none →
 h'.get? e = some { cls := .ref C, dict := some dx, data := .fields #[.ref t2, .none, .none, .none, .bool false, .none] } → h'.Ns1 dx (fun x => if x = "at" then some num else none) → RelV v num → E (.ref C) (some dx) (upd H dx (.xd [("at", v)])) → X.xe (.ref e) { s with heap := h', toks := t' }
section
variable {P : Program} {w : World} {K : PySem.W.Frag} {mg : Str → Option Value} {base : Heap} {N : List Str} {qual : Str} {scope : Scope} {f : Addr} {cd : Value} {A : Around} {outer : List Env} {s : Shared} {H : Hp} {E : XK}
theorem xd_ok {P : Program} {w : World} {H : Hp} {h : Heap} {dx : Addr} {v : V} {num : Value} (hn : h.Ns1 dx (fun x => if x = "at" then some num else none)) (r : RelV v num) : ObjOk P w H h dx (.xd [("at", v)]) := by
 refine ⟨_, hn, fun f => ?_⟩
 by_cases hf : f = "at"
 ·subst hf
  exact r
 ·rw [if_neg hf, List.lookup_cons, show (f == ("at" : Str)) = false from beq_eq_false_iff_ne.mpr hf]
  trivial
theorem madeN : MadeOkN (cxOf (CXE P w) P w K mg base N qual scope f cd A outer s H E) E := by
 intro pins σ H1 s1 h' t' e dx C t2 v num I kp hne hnd he hns rv hE
 have J : Inv (cxOf (CXE P w) P w K mg base N qual scope f cd A outer s H E) pins σ (upd H1 dx (.xd [("at", v)])) { s1 with heap := h', toks := t' } := I.newly kp hnd (xd_ok hns rv)
 have neL : ∀ b o, s.heap.get? b = some o → b ≠ s.heap.objs.size := fun b o q => Nat.ne_of_lt (Heap.lt_size q)
 have old : ∀ b o, s1.heap.get? b = some o → b ≠ e := fun b o q z => by
  rw [z, hne] at q
  cases q
 have hB : ∀ b o, h'.get? b = some o → b ∉ e :: frs (cxOf (CXE P w) P w K mg base N qual scope f cd A outer s H E).stack → (PySem.W.hideAll h' (e :: frs (cxOf (CXE P w) P w K mg base N qual scope f cd A outer s H E).stack)).get? b = some o := fun b o q hb => PySem.W.hideAll_get _ q hb
 have bs : (PySem.W.hideAll h' (e :: frs (cxOf (CXE P w) P w K mg base N qual scope f cd A outer s H E).stack)).StaysIn h' := fun b o q => PySem.W.of_hideAll _ q
 have hBe : (PySem.W.hideAll h' (e :: frs (cxOf (CXE P w) P w K mg base N qual scope f cd A outer s H E).stack)).get? e = none := PySem.W.hideAll_none _ List.mem_cons_self
 have W := kd_leaving.any (wpAny_leaving_firstW (M := model P w) (E := fun _ _ => False) (s := { s1 with heap := h', toks := t' }) (base := PySem.W.hideAll h' (e :: frs (cxOf (CXE P w) P w K mg base N qual scope f cd A outer s H E).stack))
  (Q := fun _ s2 => ∃ h2, s2 = { s1 with heap := h2, toks := t' } ∧ Heap.LeftW (PySem.W.hideAll h' (e :: frs (cxOf (CXE P w) P w K mg base N qual scope f cd A outer s H E).stack)) (cxOf (CXE P w) P w K mg base N qual scope f cd A outer s H E).stack e (.ref C) (.ref t2) h' h2)
  I.ok.frames (PySem.W.funFrames_hide J.stack fun env he' a ha => List.mem_cons_of_mem _ (List.mem_filterMap.mpr ⟨env, he', ha⟩)) rfl he bs hBe rfl rfl rfl fun h2 z => ⟨h2, rfl, z⟩)
 refine wpAny_mono W (fun _ s2 hq => ?_) fun _ _ z => z.1.elim
 obtain ⟨⟨h2, rfl, l1, l2, l3, l4⟩, dk⟩ := hq
 have c1 : ∀ b u, upd H1 dx (.xd [("at", v)]) b = some u → ∃ o, (PySem.W.hideAll h' (e :: frs (cxOf (CXE P w) P w K mg base N qual scope f cd A outer s H E).stack)).get? b = some o := fun b u q => by
  obtain ⟨o, ho⟩ := (J.hok b u q).there
  refine ⟨o, hB b o ho fun z => ?_⟩
  rcases List.mem_cons.mp z with z | z
  ·have q2 := q
   rw [z] at q2
   unfold upd at q2
   split at q2
   ·rename_i hz
    obtain ⟨oD, es, ep, hoD, hdD, _⟩ := hns
    rw [← hz, he] at hoD
    cases hoD
    cases hdD
   ·rw [I.hok.none_of hne] at q2
    cases q2
  ·rw [J.stkFree b z] at q
   cases q
 have c2 : ∀ b o, s1.heap.get? b = some o → b ∉ frs (cxOf (CXE P w) P w K mg base N qual scope f cd A outer s H E).stack → ∃ o', (PySem.W.hideAll h' (e :: frs (cxOf (CXE P w) P w K mg base N qual scope f cd A outer s H E).stack)).get? b = some o' := fun b o q hb =>
  ⟨o, hB b o (kp b o q) fun z => (List.mem_cons.mp z).elim (old b o q) hb⟩
 have fl : Heap.FlyingW (PySem.W.hideAll h' (e :: frs (cxOf (CXE P w) P w K mg base N qual scope f cd A outer s H E).stack)) outer e (.ref C) (.ref t2) h2 := ⟨l1, hBe, l2.2.2, l3⟩
 have c2' : ∀ b o, h'.get? b = some o → b ∉ e :: frs (cxOf (CXE P w) P w K mg base N qual scope f cd A outer s H E).stack → ∃ o', (PySem.W.hideAll h' (e :: frs (cxOf (CXE P w) P w K mg base N qual scope f cd A outer s H E).stack)).get? b = some o' := fun b o q hb => ⟨o, hB b o q hb⟩
 have un1 : Un (frs (cxOf (CXE P w) P w K mg base N qual scope f cd A outer s H E).stack) [] H1 (upd H1 dx (.xd [("at", v)])) s1.heap h' := ⟨fun b o q _ _ _ => kp b o q, fun b o q _ _ _ => ⟨o.slots, kp b o q⟩, fun b o q n _ => by
   rw [upd_ne fun z => by rw [z, hnd] at q; cases q]
   exact n, fun b o q _ => ⟨o, kp b o q⟩, fun b xs q => by
   rw [upd_ne fun z => by rw [z, I.hok.none_of hnd] at q; cases q]
   exact q, fun b o xs q => by
   rw [upd_ne fun z => by rw [z, I.hok.none_of hnd] at q; cases q]
   exact q, fun b ps q => ⟨#[], by
    rw [upd_ne fun z => by rw [z, I.hok.none_of hnd] at q; cases q]
    simpa using q⟩⟩
 refine ⟨e, C, .ref t2, _, _, some dx, rfl, I.os, I.bare, ?_, fly_hok J.hok bs l1 c1, fl, c1, fun b o q hb => ?_, ?_, hE⟩
 ·exact Un.under (L := s.heap.objs.size) I.base (fly_un un1 bs l1 l4 c2 I.hfs) neL
 ·obtain ⟨o1, q1⟩ := I.base.there b o q (fun z => nomatch z)
  exact c2 b o1 q1 fun z => (List.mem_cons.mp z).elim (neL b o q) hb
 ·obtain ⟨o', h3, h4⟩ := dk e _ he
  exact ⟨o', h3, fun dx' z => by cases z; exact h4⟩
end
theorem find_list {name : Str} : ∀ {l : List DictEntry} {e : DictEntry}, List.find? (fun y => y.key.isStr name) l = some e → findBy (fun n v => v.isStr n) l.toArray name = some e.val := by
 intro l e h
 unfold findBy
 simp only [List.find?_toArray, List.findIdx?_toArray]
 first
  | rw [h]; rfl
  | simp [h]
theorem ns_in {K : PySem.W.Frag} {h : Heap} {N : Addr} {m : Str → Option Value} {x : Str} {v : Value} (X : K.In h) (hN : h.Ns N m) (hx : PySem.W.nsIn K N x = some (some v)) : m x = some v := by
 unfold PySem.W.nsIn at hx
 split at hx
 ·rename_i c d es ep sl ho
  obtain ⟨o, es', ep', ho', hd, hr⟩ := hN
  have e := (X _ _ ho).symm.trans ho'
  cases e
  cases hd
  rw [← hr.2 x]
  unfold nsFind
  cases hf : List.find? (fun y => y.key.isStr x) es.toList with
  | none =>
   rw [hf] at hx
   dsimp only at hx
   split at hx <;> cases hx
  | some e =>
   rw [hf] at hx
   cases hx
   exact find_list hf
 ·cases hx
noncomputable def tRaiseN (C : Addr) (E : XK) (t : TA) : TS := fun _ σ H => t σ H fun vs H1 => ∃ v, vs = [v] ∧ ∀ dx, H1 dx = none → E (.ref C) (some dx) (upd H1 dx (.xd [("at", v)]))
section
variable {X : Cx} {E : XK} {C : Addr} {x : Str} {np cpos pos : Pos} {e : Expr} {es : List Expr} {t : TA} {k : Nat}
theorem ps_raiseN {K : PySem.W.Frag} (hK : X.K = K) (hM : MadeOkN X E) (T : ∃ fI, ExcN X.prog K C fI) (hkp : PySem.W.keepIn K (.ref C) = true) (hg : Gl X x) (hm : X.mg x = some (.ref C)) (hsup : X.mg "super" = none) (hr : Room k X.A) (ha : PA X (e :: es) t) (hc : X.calm = true := by rfl) (hdb : (x == ("__debug__" : Str)) = false := by decide)
  (he : starEach (e :: es) X.env = (false, eval e X.env) :: starEach es X.env := by rfl) (hpl : (backTo cpos (starEach es X.env)).any (·.1) = false := by rfl) :
  PS X (.Raise (some (.Call (.Name x np) (e :: es) [] cpos)) none pos) (tRaiseN C E t) := by
 subst hK
 intro pins s σ H D I h
 obtain ⟨fI, T⟩ := T
 obtain ⟨nm, qn, N, D1, bs, sn, sub, ab, col, dd, k0, k1, k2, k3, k5, lC, tl, nok, nin, hal⟩ := T.cls
 have hfI := T.fn
 obtain ⟨qual, p1, p2, x1, n1, q0, q1, q2, q3, q4, q5, q6, q7, q8, q9, cc, cda, od, an, osl, ccs, cds, kV, doc, pm, ct, ccl, cdl, ccd, cdd, vs0, file, tf, lf, _⟩ := hfI
 show wpAny _ _ (do
  standAt pos
  raiseStmt X.env (some (do
   let v ← eval (.Call (.Name x np) (e :: es) [] cpos) X.env
   standAt pos
   pure v)) none) _ _ _
 refine wpAny_bind (wpAny_standAt (raise_inst (C := C) (bm := .ref D1 :: veB) (nm := nm) (q := qn) (N := N) (bs := bs) (hdct := true) (sn := sn) (sub := sub) (ab := ab) (col := col) (dd := dd) (k0 := k0) (k1 := k1) (k2 := k2) (k3 := k3) (k5 := k5) (newId := "ValueError.__new__") (by simp only [List.contains_cons]; rfl) (I.ok.hd hc) ?_))
 refine wpAny_bind (wpAny_Call_Name_kw (ld_glob I hg hm ?_ hdb))
 refine PySem.W.callWith_K (h₀ := X.base) I.ok.mod.kin hkp (thn (ha cpos pins s σ H _ I h) fun us s1 ⟨vs, H1, I1, r, v, ev, q⟩ => ⟨I1.kIn, ?_⟩) he hpl
 subst ev
 obtain ⟨num, rfl, rv⟩ := r.one
 obtain ⟨h1, g, d, t0, os⟩ := s1
 have M1 : Mod X.K X.mg h1 := ⟨I1.kIn, I1.mod.glob.keeps I1.bk, by obtain ⟨mb, z1, z2⟩ := I1.mod.blt; exact ⟨mb, z1.keeps I1.bk, z2⟩, I1.mod.nolimit.keeps I1.bk⟩
 have OT : OwnTail h1 veB (.ref D1 :: veB) := PySem.W.tail_of_in I1.kIn tl
 have hN : h1.Ns N _ := .of_isNs (PySem.W.isNs_of_in I1.kIn nok)
 refine call_init (fI := fI) OT (I1.kIn _ _ lC) hN (ns_in I1.kIn hN nin) (I1.kIn _ _ lf) rfl (fun h' e' M => ?_) (by show 1 ≤ sizeLine; decide)
 refine wpAny_call ?_
 obtain ⟨t1, he', _⟩ := M.there
 have X2 : X.K.In h' := I1.kIn.keeps M.keeps
 have M2 : Mod X.K X.mg h' := ⟨X2, M1.glob.keeps M.keeps, by obtain ⟨mb, z1, z2⟩ := M1.blt; exact ⟨mb, z1.keeps M.keeps, z2⟩, M1.nolimit.keeps M.keeps⟩
 refine init_run (num := num) T X2 M2 (by rw [make_depth]; have := hr.dp; omega) hsup (fun a o la z => ?_) he' fun h2 t2 dx ta kp hdx he2 hns => ?_
 ·have := I1.kIn _ _ la
  rw [z, M.new] at this
  cases this
 refine ⟨rfl, ?_⟩
 refine wpAny_bind (wpAny_standAt (wpAny_pure ⟨e', _, _, rfl, ?_, he2, rfl, rfl, rfl, ?_⟩))
 ·refine kp _ _ (fun z => ?_) (X2 _ _ lC)
  have := I1.kIn _ _ lC
  rw [z, M.new] at this
  cases this
 ·have nd : h1.get? dx = none := by
   cases hz : h1.get? dx with
   | none => rfl
   | some o =>
    rw [M.keeps _ _ hz] at hdx
    cases hdx
  exact hM pins σ H1 ⟨h1, g, d, t0, os⟩ h2 t2 e' dx C ta v num I1 (fun b o q => kp b o (fun z => by rw [z, M.new] at q; cases q) (M.keeps _ _ q)) M.new nd he2 hns rv (q dx (I1.hok.none_of nd))
end
end L2
namespace L2
open PySem PySem.Spec PyProof.Rows
open PySem.W PySem.Builtin PySem.Builtin.ObjectAttr
theorem handed_rel {M : Model} {A : Around} {E : Value → Shared → Prop} {v : V} {u : Value} {Q : Value → Shared → Prop} {s : Shared} (r : RelV v u) (q : Q u s) : wpAny M A (handedOut u) Q E s := by
 cases v <;> first | (obtain ⟨t, rfl⟩ := r; exact wpAny_pure q) | (cases r; exact wpAny_pure q)
section
variable {prog : Program} {w : World} {A : Around} {E : Value → Shared → Prop} {h : Heap} {g : Array GenState} {d : Drawn} {t : Nat} {os : OsState} {a dx : Addr} {o : Obj} {vs : Array Value} {C : Addr} {K : PySem.W.Frag} {m : Str → Option Value} {u : Value} {v : V}
theorem at_entry {tk : Tok} {Q : PySem.Fin → Shared → Prop} (X : K.In h) (T : ExcB K C) (hat : findIn K (.ref C) "at" = some none) (hhd : hasDictIn K C = true) (I : IsExcD a C (some dx) h) (hn : h.Ns dx m) (hm : m "at" = some u) (hq : Q (.done (.ret u)) ⟨h, g, d, t, os⟩) :
  wpAny (model prog w) A (Builtin.«object.__getattribute__» ⟨[.ref a, .str "at" tk], []⟩) Q E ⟨h, g, d, t, os⟩ := by
 have L0 := IsExc.type (M := model prog w) I.e
 have L1 := looks_findIn (M := model prog w) X hat
 obtain ⟨o, vs, ho, hc, hv, hd⟩ := I
 unfold Builtin.«object.__getattribute__»
 refine wpAny_bind (wpAny_pure ?_)
 dsimp only
 refine wpAny_bind (wpAny_pure ?_)
 refine wpAny_bind (L0.at ?_)
 unfold find
 refine wpAny_bind (wpAny_bind (L1.at ?_))
 refine wpAny_bind (wpAny_pure ?_)
 refine wpAny_bind (wpAny_pure ?_)
 dsimp only
 unfold ownThenClass inOwnDict
 obtain ⟨cdD, hcD⟩ : ∃ cd, clsIn K C = some cd ∧ cd.hasDict = true := by
  unfold hasDictIn at hhd
  cases hz : clsIn K C with
  | none => rw [hz] at hhd; cases hhd
  | some cd => rw [hz] at hhd; exact ⟨cd, rfl, hhd⟩
 have L2 := looks_clsIn (M := model prog w) X hcD.1
 dsimp only
 refine wpAny_bind (wpAny_bind (wpAny_bind ?_))
 unfold loadHead
 refine wpAny_loadPart ho ?_
 rw [hv]
 show wpAny _ _ (instanceDict a false) _ _ _
 unfold instanceDict
 refine wpAny_bind (wpAny_loadPart ho ?_)
 rw [hc, hd dx rfl]
 dsimp only
 refine wpAny_bind (L2.at ?_)
 rw [hcD.2, if_neg (by decide)]
 refine wpAny_pure ?_
 show wpAny _ _ (nsGet dx "at") _ _ _
 refine wpAny_nsGet hn ?_
 rw [hm]
 dsimp only
 refine wpAny_bind (wpAny_rule (wpAny_pure ?_))
 dsimp only
 exact wpAny_pure hq
theorem exc_getat {b : Bool} {Q : Value → Shared → Prop} (X : K.In h) (T : ExcB K C) (hat : findIn K (.ref C) "at" = some none) (hhd : hasDictIn K C = true) (I : IsExcD a C (some dx) h) (hn : h.Ns dx m) (hm : m "at" = some u) (r : RelV v u) (hq : ∀ t', Q u ⟨h, g, d, t', os⟩) :
  wpAny (model prog w) A (getAttr (.ref a) "at" b) Q E ⟨h, g, d, t, os⟩ := by
 have L0 := IsExc.type (M := model prog w) I.e
 have L1 := PySem.W.looks_findIn (M := model prog w) X T.1
 have L2 := PySem.W.looks_findIn (M := model prog w) X T.2.1
 have hx2 : (Value.builtin "BaseException.__getattribute__" == Value.builtin "object.__getattribute__") = false := by decide +kernel
 unfold getAttr
 refine wpAny_bind (wpAny_mkText ?_)
 unfold getAttrBy
 refine wpAny_holding (wpAny_bind (L0.at (wpAny_bind (L1.at ?_))))
 dsimp only
 rw [hx2, Bool.and_false, if_neg Bool.false_ne_true]
 unfold getAttrByItsOwn hookBefore
 rw [show onTheHeap (Value.ref C) = true from rfl, if_pos rfl]
 refine wpAny_bind (L2.at (wpAny_bind (wpAny_attempt (wpAny_holding ?_))))
 unfold callGetattribute
 rw [show onTheHeap (Value.builtin "BaseException.__getattribute__") = false from rfl, Bool.and_false, if_neg Bool.false_ne_true]
 have f3 := F.excAttr_ValueError.ga.bind (.ref a)
 unfold boundAndCalled
 rw [f3]
 refine wpAny_bind (wpAny_pure ?_)
 dsimp only
 refine wpAny_call (codeAny_call_builtin F.excAttr_ValueError.ga.plain F.entry_bexc_ga (check_ga_exc X T I.e (at_entry X T hat hhd I hn hm ?_)))
 exact handed_rel r (hq _)
end
noncomputable def tAt (K : PySem.W.Frag) (ta : TE) : TE := fun σ H Q => ta σ H fun x H1 => ∃ a C dx fs v, x = .ref a ∧ H1 a = some (excD a C (some dx)) ∧ ExcB K C ∧ findIn K (.ref C) "at" = some none ∧ hasDictIn K C = true ∧ H1 dx = some (.xd fs) ∧ fs.lookup ("at" : Str) = some v ∧ Q v H1
section
variable {X : Cx} {e : Expr} {pos : Pos} {ta : TE}
theorem pe_at {K : PySem.W.Frag} (hK : X.K = K) (he : PE X e ta) (hb : attributeBase e "at" X.env (eval e X.env) = eval e X.env) : PE X (.Attribute e "at" pos) (tAt K ta) := by
 subst hK
 intro pins s σ H Q I h
 refine attr_of hb (thn (he pins s σ H _ I h) fun u s1 ⟨x, H1, I1, rx, a, C, dx, fs, v, ex, ea, T, hat, hhd, ed, l, q⟩ => ?_)
 subst ex
 obtain rfl : u = Value.ref a := rx
 obtain ⟨hx, _, _⟩ := I1.hok a _ ea
 obtain ⟨mA, hn, hf⟩ := I1.hok dx _ ed
 have hr := hf "at"
 rw [l] at hr
 obtain ⟨h1, g, d, t, os⟩ := s1
 cases hm : mA "at" with
 | none =>
  rw [hm] at hr
  exact hr.elim
 | some u =>
  rw [hm] at hr
  exact exc_getat I1.kIn T hat hhd hx hn.ns hm hr fun t' => ⟨v, H1, I1.tok t', hr, q⟩
end
end L2
namespace L2
open PySem PySem.Spec PyProof.Rows
inductive PHs (X : Cx) : List ExceptHandler → List (Addr × Nat × TS) → Prop
 | nil {hs : List ExceptHandler} : PHs X hs []
 | cons {x n : Str} {np hpos : Pos} {b₀ : Stmt} {suite : List Stmt} {hs : List ExceptHandler} {cD : Addr} {i : Nat} {th : TS} {ths : List (Addr × Nat × TS)} (hi : X.N[i]? = some n) (hl : X.env.scope.names.lookup n = some .local) (hg : Gl X x) (hm : X.mg x = some (.ref cD)) (hdb : (x == ("__debug__" : Str)) = false)
   (hh : ∀ ev, PSs (X.suite ev) (b₀ :: suite) th) : PHs X hs ths → PHs X (.ExceptHandler (some (.Name x np)) (some n) (b₀ :: suite) hpos :: hs) ((cD, i, th) :: ths)
noncomputable def HMatch (K : PySem.W.Frag) (C : Addr) : List (Addr × Nat × TS) → (Nat → TS → Prop) → Prop
 | [], _ => False
 | (cD, i, th) :: r, F => (PySem.W.exmOne K (.ref C) (.ref cD) = some true ∧ F i th) ∨ (PySem.W.exmOne K (.ref C) (.ref cD) = some false ∧ HMatch K C r F)
noncomputable def tryEN (K : PySem.W.Frag) (ths : List (Addr × Nat × TS)) (D : Ends) (σ : St) : XK := fun cls od H' => ∃ C, cls = .ref C ∧ ExcB K C ∧ HMatch K C ths fun i th => ∀ e, H' e = none → th (goneEnds D i) (σ.set i (some (.ref e))) (upd H' e (excD e C od))
noncomputable def tTryN (K : PySem.W.Frag) (ths : List (Addr × Nat × TS)) (tb : XK → St → TS) : TS := fun D σ H => tb (tryEN K ths D σ) σ D σ H
section
variable {X : Cx} {body : List Stmt} {h0 : ExceptHandler} {hs : List ExceptHandler} {ths : List (Addr × Nat × TS)} {pos : Pos} {tb : XK → St → TS} {K : PySem.W.Frag}
theorem ps_tryN (hK : X.K = K) (hb : ∀ (pn : List (Addr × Obj)) (W : Value → Shared → Prop) (E : XK) (σ0 : St), PassesS (CXE X.prog X.w) (X.tryIn pn W) σ0 E → PSs (X.tryIn pn W) body (tb E σ0))
  (hhs : PHs X (h0 :: hs) ths) (hN : X.N.Nodup) (hst : X.stack = X.env :: X.outer := by rfl) (hf : X.env.frame = some X.env.locals := by rfl) :
  PS X (.Try body (h0 :: hs) [] [] pos) (tTryN K ths tb) := by
 subst hK
 intro pins s σ H D I h
 refine wpAny_Try_except ?_
 have hp : PassesS (CXE X.prog X.w) (X.tryIn (X.pn ++ pins) fun ev s₁ => wpAny (model X.prog X.w) X.A (noteFrame ev X.env) (fun _ s₂ => wpAny (model X.prog X.w) X.A (setFlight ev none) (fun _ s₃ => wpAny (model X.prog X.w) X.A (handleBy ev X.env (h0 :: hs)) (SP X pins D) X.xe s₃) X.xe s₂) X.xe s₁) σ (tryEN X.K ths D σ) := by
  intro pins' H1 s1 ev s' I1 hc
  obtain ⟨e, C, a0, B, H', od, rfl, os, bare, un, hok, fl, c1, c2, hd, C', hcc, T, hM⟩ := hc
  cases hcc
  have hfr : X.A.frames = some (X.env :: X.outer) := I.ok.frames.trans (by rw [hst])
  have fl1 : Heap.FlyingW B (X.env :: X.outer) e (.ref C) a0 s'.heap := by
   have z : Heap.FlyingW B X.stack e (.ref C) a0 s'.heap := fl
   rw [hst] at z
   exact z
  refine wpAny_mono (kd_note.any (wpAny_looks_onW (Q := fun _ s2 => ∃ h4, s2 = { s' with heap := h4 } ∧ Heap.HeldW B (X.env :: X.outer) e (.ref C) a0 X.env.locals h4 ∧ s'.heap.UpToSlots h4) (E := fun _ _ => False) hfr hf fl1 fun h4 held up4 => ⟨h4, rfl, held, up4⟩)) (fun _ s2 hq => ?_) fun _ _ z => z.1.elim
  obtain ⟨⟨h4, rfl, held, up4⟩, dk4⟩ := hq
  refine wpAny_mono (kd_flight.any (wpAny_landsW (Q := fun _ s2 => ∃ h5, s2 = { s' with heap := h5 } ∧ Heap.FlyingW B (X.env :: X.outer) e (.ref C) a0 h5 ∧ h4.UpToSlots h5) (E := fun _ _ => False) held fun h5 fl5 up5 => ⟨h5, rfl, fl5, up5⟩)) (fun _ s2 hq => ?_) fun _ _ z => z.1.elim
  obtain ⟨⟨h5, rfl, fl5, up5⟩, dk5⟩ := hq
  have mk : ∀ h6, B.StaysIn h6 → s'.heap.UpToSlots h6 → Inv X pins σ H' { s' with heap := h6 } := fun h6 st up => by
   have J := I1.call' (s' := { s' with heap := h6 }) (ch := []) os (fly_un un fl.1 st up c2 I1.hfs) (fly_hok hok fl.1 st c1) bare (fun b z => nomatch z)
   exact J.tryOut
  have ne1 : ∀ h6, Heap.FlyingW B (X.env :: X.outer) e (.ref C) a0 h6 → s'.heap.UpToSlots h6 → ∀ b o, s1.heap.get? b = some o → b ≠ e := fun h6 fl6 up b o q z => by
   by_cases hb : b ∈ frs X.stack
   ·obtain ⟨hn, o2, ho2, nf⟩ := I1.hfs b hb
    rw [q] at ho2
    cases ho2
    obtain ⟨sl, e1⟩ := un.slot b o q hn hb (fun z => nomatch z)
    obtain ⟨sl', e2⟩ := up b _ e1 nf
    obtain ⟨oe, vs, he, _, hd, _⟩ := fl6.first
    rw [z, he] at e2
    cases e2
    exact nf vs hd
   ·obtain ⟨o', hB⟩ := c2 b o q hb
    rw [z, fl6.2.1] at hB
    cases hB
  have hne : H' e = none := by
   cases q : H' e with
   | none => rfl
   | some u =>
    obtain ⟨o, hB⟩ := c1 e u q
    rw [fl.2.1] at hB
    cases hB
  have J5 := mk h5 fl5.1 (up4.trans up5)
  revert hM
  clear h
  generalize h0 :: hs = l at hhs ⊢
  induction hhs with
  | nil => intro hM; exact hM.elim
  | @cons x n np hpos b₀ suite hs cD i th ths hi hl hg hm hdb hh _ ih =>
  intro hM
  refine wpAny_handleBy_cons (codeAny_handlers_test ?_) (by intro q; cases q)
  refine ld_glob (X := X.suite (.ref e)) J5.suite hg hm ?_ hdb
  have LT : PySem.W.Looks (model X.prog X.w) h5 (typeOf (.ref e)) (.ref C) := by
   obtain ⟨oe, ho, hc⟩ := fl5.there
   exact hc ▸ (PySem.W.Looks.ld ho).andThen .now
  rcases hM with ⟨hx, hth⟩ | ⟨hx, hM⟩
  rotate_left
  ·refine (PySem.W.exm_one J5.kIn LT hx).here ?_
   exact ih hM
  refine (PySem.W.exm_one J5.kIn LT hx).here ?_
  show codeAny _ _ _ _ _
  refine codeAny_handlers_suite_as ?_
  refine wpAny_mono (kd_flight.any (lands_againW (Q := fun _ s2 => ∃ h6, s2 = { s' with heap := h6 } ∧ Heap.FlyingW B (X.env :: X.outer) e (.ref C) a0 h6 ∧ h5.UpToSlots h6) (E := fun _ _ => False) fl5 fun h6 fl6 up6 => ⟨h6, rfl, fl6, up6⟩)) (fun _ s2 hq => ?_) fun _ _ z => z.1.elim
  obtain ⟨⟨h6, rfl, fl6, up6⟩, dk6⟩ := hq
  have up := (up4.trans up5).trans up6
  have J6 := mk h6 fl6.1 up
  have ne := ne1 h6 fl6 up
  have IE : IsExc e C h6 := by
   obtain ⟨oe, vs, he, hc, hd, _⟩ := fl6.first
   exact ⟨oe, vs, he, hc, hd⟩
  have nf : ∀ b o, h6.get? b = some o → (∀ vs, o.data ≠ .fields vs) → b ≠ e := fun b o q d z => by
   obtain ⟨oe, vs, he, hc, hd⟩ := IE
   rw [z, he] at q
   cases q
   exact d vs hd
  have ID : IsExcD e C od h6 := by
   obtain ⟨o0, z1, z2⟩ := hd
   obtain ⟨o4, z3, z4⟩ := dk4 e o0 z1
   obtain ⟨o5, z5, z6⟩ := dk5 e o4 z3
   obtain ⟨o6, z7, z8⟩ := dk6 e o5 z5
   obtain ⟨o, vs, he, hc, hv⟩ := IE
   have e6 := he.symm.trans z7
   cases e6
   exact ⟨_, vs, he, hc, hv, fun dx z => z8.trans (z6.trans (z4.trans (z2 dx z)))⟩
  have J7 : Inv X pins σ (upd H' e (excD e C od)) { s' with heap := h6 } := by
   refine J6.track hne (fun b u q hx => ?_) ?_ (fun y c q => ?_) (fun p hp => ?_) (excD_ok ID)
   ·obtain ⟨o1, q1⟩ := I1.base.there b u q hx
    exact ne b o1 q1
   ·obtain ⟨m, ⟨oL, es, ep, hoL, hdL, _⟩, _⟩ := J6.loc
    exact nf _ _ hoL fun vs q => by rw [hdL] at q; cases q
   ·obtain ⟨v, oc, hoc, hdc⟩ := J6.cell y c q
    exact nf _ _ hoc fun vs q => by rw [hdc] at q; cases q
   ·obtain ⟨q1, _⟩ := I1.pin p (List.mem_append_left _ hp)
    exact ne _ _ q1
  refine store_ok (X := X.suite (.ref e)) (v := .ref e) J7.suite hN hi (.inl hl) rfl (fun s7 J8 => ?_) (.inr hl)
  refine wpAny_mono (hh (.ref e) pins s7 _ _ (goneEnds D i) J8 (hth e hne)) (fun fl s8 q => ?_) fun _ _ z => False.elim z
  match fl, q with
  | .next, ⟨σ', H'', J9, q⟩ => exact gone_ok (J9.unsuite I.ok) hN hi hl fun s9 Jz => ⟨_, _, Jz, q⟩
  | .brk, ⟨σ', H'', J9, q⟩ => exact gone_ok (J9.unsuite I.ok) hN hi hl fun s9 Jz => ⟨_, _, Jz, q⟩
  | .cont, ⟨σ', H'', J9, q⟩ => exact gone_ok (J9.unsuite I.ok) hN hi hl fun s9 Jz => ⟨_, _, Jz, q⟩
  | .ret u, ⟨v, σ', H'', J9, r, q⟩ => exact gone_ok (J9.unsuite I.ok) hN hi hl fun s9 Jz => ⟨v, _, _, Jz, r, q⟩
 refine wpAny_mono (hb _ _ _ _ hp [] s σ H D I.tryIn h) (fun fl s1 q => ?_) fun _ _ z => z
 have q := SP.tryOut q
 match fl, q with
 | .next, ⟨σ', H', J, q⟩ => exact pss_nil pins s1 σ' H' D J q
 | .brk, q => exact q
 | .cont, q => exact q
 | .ret u, q => exact q
end
end L2
set_option Elab.async false
set_option linter.all false
set_option maxRecDepth 100000
namespace L2
open PySem PySem.Spec PyProof.Rows
section
variable {X : Cx} {pos : Pos}
noncomputable def tPar3 (i j k : Nat) (ta : TA) : TS := fun D σ H => ta σ H fun vs H1 => ∃ v w u, vs = [v, w, u] ∧ D.nx (((σ.set i (some v)).set j (some w)).set k (some u)) H1
end
end L2
set_option Elab.async false
set_option linter.all false
set_option maxRecDepth 100000
namespace L2
open PySem PySem.Spec PyProof.Rows
noncomputable def dkOf (o : Option HO) : Option (List (Key × V)) := match o with
 | some (.dK kvs) => some kvs
 | _ => none
theorem dkOf_k (kvs : List (Key × V)) : dkOf (some (.dK kvs)) = some kvs := rfl
theorem dkOf_eq {o : Option HO} {kvs : List (Key × V)} (h : dkOf o = some kvs) : o = some (.dK kvs) := by
 unfold dkOf at h
 split at h
 ·cases h; rfl
 ·cases h
noncomputable def tDg (k : Str) (td : TE) : TE := fun σ H Q => td σ H fun x H1 => match x with
 | .ref a => optK (dkOf (H1 a)) fun kvs => optK (valV kvs (Sum.inr k)) fun v => Q v H1
 | _ => False
noncomputable def tDp (k : Str) (td tv : TE) : TS := fun D σ H => tv σ H fun v H1 => td σ H1 fun x H2 => match x with
 | .ref a => optK (dkOf (H2 a)) fun kvs => kvs.length < 1000000 ∧ D.nx σ (upd H2 a (.dK (putK kvs (Sum.inr k) v)))
 | _ => False
section
variable {X : Cx} {o i value : Expr} {pos pos' : Pos} {td tv : TE} {k : Str}
theorem pe_dgS (hu : X.A.units + 1 < cLine) (ho : PE X o td) (hi : PE X i (tC (.str k))) (hs : NoSl i) : PE X (.Subscript o i pos) (tDg k td) := by
 intro pins s σ H Q I h
 refine subD_of PySem.F.slot_dict_getitem.lookup hs (thn (ho pins s σ H _ I h) fun u s1 ⟨x, H1, I1, rx, q1⟩ => ?_)
 cases x with
 | ref a =>
  obtain ⟨kvs, e, q1⟩ := optK_elim q1
  obtain ⟨v, e2, q1⟩ := optK_elim q1
  have e := dkOf_eq e
  refine thn (hi pins s1 σ H1 (fun y H2 => y = V.str k ∧ H2 = H1) I1 ⟨rfl, rfl⟩) fun iv s2 ⟨y, H2, I2, ry, ey, eH⟩ => ?_
  subst ey
  subst eH
  obtain rfl : u = Value.ref a := rx
  have g : DGet H2 a (V.str k) (some v) := by
   have := DGet.k (k := Sum.inr k) e
   rw [e2] at this
   exact this
  exact ⟨dict_typeIs I2 g, d_getItem hu I2 g ry fun w' s3 I3 rw' => ⟨v, H2, I3, rw', q1⟩⟩
 | _ => exact q1.elim
theorem ps_dpS (hu : X.A.units + 1 < cLine) (ho : PE X o td) (hi : PE X i (tC (.str k))) (hv : PE X value tv) (hs : swapsWith value (some (.Subscript o i pos')) pos.line X.env = pure false) :
  PS X (.Assign [.Subscript o i pos'] value pos) (tDp k td tv) := by
 intro pins s σ H D I h
 refine wpAny_Assign_Subscript (thn (hv pins s σ H _ I h) fun r s1 ⟨v, H1, I1, rv, q1⟩ => thn (ho pins s1 σ H1 _ I1 q1) fun u s2 ⟨x, H2, I2, rx, q2⟩ => ?_) hs
 cases x with
 | ref a =>
  obtain ⟨kvs, e, hl, q2⟩ := optK_elim q2
  have e := dkOf_eq e
  refine thn (hi pins s2 σ H2 (fun y H3 => y = V.str k ∧ H3 = H2) I2 ⟨rfl, rfl⟩) fun iv s3 ⟨y, H3, I3, ry, ey, eH⟩ => ?_
  subst ey
  subst eH
  obtain rfl : u = Value.ref a := rx
  exact d_setItem hu I3 (DPut.k (k := Sum.inr k) e (small6 hl)) ry rv fun s4 I4 => ⟨σ, _, I4, q2⟩
 | _ => exact q2.elim
end
theorem FnB.no {P : Program} {w : World} {K : PySem.W.Frag} {mg : Str → Option Value} {base : Heap} {CX : CXT} {x : Str} {ps : List Str} {f : Addr} {fd : FuncData} (m : mg x = some (.ref f)) (kp : PySem.W.keepIn K (.ref f) = true) (b : Binds K fd ps []) : FnB P w K mg base CX 0 x ps (fun _ _ _ _ => False) :=
 ⟨f, fd, ⟨fun _ _ _ _ h => h.elim, fun _ _ _ _ _ _ _ _ _ _ _ _ _ h => h.elim⟩, m, kp, b⟩
end L2
set_option Elab.async false
set_option linter.all false
set_option maxRecDepth 100000
namespace L2
open PySem PySem.Spec PyProof.Rows
section
variable {X : Cx} {pos pos' : Pos}
theorem best_lt (val : Nat → Int) : ∀ k, argBest (fun i j => decide (val i < val j)) k ≤ k ∧ ∀ j, j ≤ k → val (argBest (fun i j => decide (val i < val j)) k) ≤ val j := by
 intro k
 induction k with
 | zero =>
  rw [argBest.eq_1]
  exact ⟨Nat.le_refl _, fun j hj => by obtain rfl : j = 0 := (by omega); exact Int.le_refl _⟩
 | succ k ih =>
  rw [show k + 1 = k.succ from rfl, argBest.eq_2]
  by_cases h : val (k + 1) < val (argBest (fun i j => decide (val i < val j)) k)
  ·rw [if_pos (decide_eq_true h)]
   refine ⟨Nat.le_refl _, fun j hj => ?_⟩
   by_cases e : j = k + 1
   ·subst e; exact Int.le_refl _
   ·have := ih.2 j (by omega)
    omega
  ·rw [if_neg (by rw [decide_eq_true_eq]; exact h)]
   refine ⟨by have := ih.1; omega, fun j hj => ?_⟩
   by_cases e : j = k + 1
   ·subst e; omega
   ·exact ih.2 j (by omega)
theorem best_gt (val : Nat → Int) : ∀ k, argBest (fun i j => decide (val i > val j)) k ≤ k ∧ ∀ j, j ≤ k → val j ≤ val (argBest (fun i j => decide (val i > val j)) k) := by
 intro k
 induction k with
 | zero =>
  rw [argBest.eq_1]
  exact ⟨Nat.le_refl _, fun j hj => by obtain rfl : j = 0 := (by omega); exact Int.le_refl _⟩
 | succ k ih =>
  rw [show k + 1 = k.succ from rfl, argBest.eq_2]
  by_cases h : val (k + 1) > val (argBest (fun i j => decide (val i > val j)) k)
  ·rw [if_pos (decide_eq_true h)]
   refine ⟨Nat.le_refl _, fun j hj => ?_⟩
   by_cases e : j = k + 1
   ·subst e; exact Int.le_refl _
   ·have := ih.2 j (by omega)
    omega
  ·rw [if_neg (by rw [decide_eq_true_eq]; exact h)]
   refine ⟨by have := ih.1; omega, fun j hj => ?_⟩
   by_cases e : j = k + 1
   ·subst e; omega
   ·exact ih.2 j (by omega)
noncomputable def rBestL (K : PySem.W.Frag) (ok : Int → Int → Prop) : List V → Hp → VK → Prop := fun vs H Q => ∃ (l : Addr) (ns : List Int), vs = [.ref l] ∧ SqL K H l (ns.map V.int) ∧ 0 < ns.length ∧ ∀ M, M ∈ ns → (∀ a ∈ ns, ok M a) → Q (.int M) H
theorem val_at {ns : List Int} : ∀ {its : List Value}, Vals (ns.map V.int) its → its.length = ns.length ∧ ∀ (i : Nat) (v : Value), its[i]? = some v → ∃ t, v = Value.int (ns.getD i 0) t := by
 induction ns with
 | nil => intro its r; cases r; exact ⟨rfl, fun i v h => by simp at h⟩
 | cons n ns ih =>
  intro its r
  cases r with
  | cons p q =>
   obtain ⟨h1, h2⟩ := ih q
   refine ⟨by simp [h1], fun i v h => ?_⟩
   cases i with
   | zero => cases h; exact p
   | succ i => exact h2 i v h
theorem mem_of_getD {ns : List Int} {i : Nat} (h : i < ns.length) : ns.getD i 0 ∈ ns := by
 rw [List.getD_eq_getElem?_getD, List.getElem?_eq_getElem h]
 exact List.getElem_mem h
theorem call_minL {K : PySem.W.Frag} (hK : X.K = K) (hcalm : X.calm = true) : CallR X (.builtin "min") (rBestL K fun M a => M ≤ a) := by
 subst hK
 intro pins s σ H xs us Q I r h
 obtain ⟨l, ns, rfl, hl, h0, q⟩ := h
 obtain ⟨u, rfl, rx⟩ := vals1 r
 cases rx
 obtain ⟨its, r', pl, hz⟩ := I.list hl
 obtain ⟨hlen, hat⟩ := val_at r'
 have hIs := pl.isList
 refine call_min_walk (wpAny_pyIter_list hIs ?_)
 obtain ⟨o, ho, hcl, hdt⟩ := hIs
 have W := Walks.list (prog := X.prog) (w := X.w) (A := X.A.in1) (show X.A.in1.handled = none from I.ok.hd hcalm) s.heap.objs.size l (Nat.ne_of_lt (Heap.lt_size ho)) its.toArray
 have S0 : (s.heap.push { cls := .type "list_iterator", data := .fields #[.ref l, .int 0 0] }).IsListIter s.heap.objs.size l 0 ∧ (s.heap.push { cls := .type "list_iterator", data := .fields #[.ref l, .int 0 0] }).IsList l its.toArray := ⟨⟨_, Heap.get?_push_size _ rfl, rfl, rfl⟩, ⟨o, Heap.get?_push_of_some _ ho, hcl, hdt⟩⟩
 refine ⟨s.heap.objs.size, [s.heap.objs.size, l], [s.heap.objs.size], its.toArray.size, (fun i v => its.toArray[i]? = some v), _, fun i j => decide (ns.getD i 0 < ns.getD j 0), rfl, W, S0, ?_, ?_, CmpOf.ints_lt (fun i => ns.getD i 0) (fun i v hv => hat i v (by simpa using hv)), ?_⟩
 ·intro b hb
  simp only [List.mem_cons, List.not_mem_nil, or_false] at hb
  rw [Heap.size_push]
  rcases hb with rfl | rfl
  ·exact Nat.lt_succ_self _
  ·exact Nat.lt_succ_of_lt (Heap.lt_size ho)
 ·simp only [List.size_toArray]; omega
 ·intro v h' tk hv kp
  obtain ⟨hb1, hb2⟩ := best_lt (fun i => ns.getD i 0) (its.toArray.size - 1)
  simp only [List.size_toArray] at hb1 hb2 hv
  rw [List.getElem?_toArray] at hv
  obtain ⟨t, rfl⟩ := hat _ v hv
  refine ⟨.int _, H, I.kept (t' := tk) (fun b ob hq => kp b ob ?_ (Heap.get?_push_of_some _ hq)), ⟨t, rfl⟩, q _ (mem_of_getD (by omega)) fun a ha => ?_⟩
  ·simp only [List.mem_cons, List.not_mem_nil, or_false]
   exact Nat.ne_of_lt (Heap.lt_size hq)
  ·obtain ⟨j, hj⟩ := List.getElem?_of_mem ha
   have lj := (List.getElem?_eq_some_iff.mp hj).1
   have := hb2 j (by omega)
   rw [show ns.getD j 0 = a by rw [List.getD_eq_getElem?_getD, hj]; rfl] at this
   exact this
theorem call_maxL {K : PySem.W.Frag} (hK : X.K = K) (hcalm : X.calm = true) : CallR X (.builtin "max") (rBestL K fun M a => a ≤ M) := by
 subst hK
 intro pins s σ H xs us Q I r h
 obtain ⟨l, ns, rfl, hl, h0, q⟩ := h
 obtain ⟨u, rfl, rx⟩ := vals1 r
 cases rx
 obtain ⟨its, r', pl, hz⟩ := I.list hl
 obtain ⟨hlen, hat⟩ := val_at r'
 have hIs := pl.isList
 refine call_max_walk (wpAny_pyIter_list hIs ?_)
 obtain ⟨o, ho, hcl, hdt⟩ := hIs
 have W := Walks.list (prog := X.prog) (w := X.w) (A := X.A.in1) (show X.A.in1.handled = none from I.ok.hd hcalm) s.heap.objs.size l (Nat.ne_of_lt (Heap.lt_size ho)) its.toArray
 have S0 : (s.heap.push { cls := .type "list_iterator", data := .fields #[.ref l, .int 0 0] }).IsListIter s.heap.objs.size l 0 ∧ (s.heap.push { cls := .type "list_iterator", data := .fields #[.ref l, .int 0 0] }).IsList l its.toArray := ⟨⟨_, Heap.get?_push_size _ rfl, rfl, rfl⟩, ⟨o, Heap.get?_push_of_some _ ho, hcl, hdt⟩⟩
 refine ⟨s.heap.objs.size, [s.heap.objs.size, l], [s.heap.objs.size], its.toArray.size, (fun i v => its.toArray[i]? = some v), _, fun i j => decide (ns.getD i 0 > ns.getD j 0), rfl, W, S0, ?_, ?_, CmpOf.ints_gt (fun i => ns.getD i 0) (fun i v hv => hat i v (by simpa using hv)), ?_⟩
 ·intro b hb
  simp only [List.mem_cons, List.not_mem_nil, or_false] at hb
  rw [Heap.size_push]
  rcases hb with rfl | rfl
  ·exact Nat.lt_succ_self _
  ·exact Nat.lt_succ_of_lt (Heap.lt_size ho)
 ·simp only [List.size_toArray]; omega
 ·intro v h' tk hv kp
  obtain ⟨hb1, hb2⟩ := best_gt (fun i => ns.getD i 0) (its.toArray.size - 1)
  simp only [List.size_toArray] at hb1 hb2 hv
  rw [List.getElem?_toArray] at hv
  obtain ⟨t, rfl⟩ := hat _ v hv
  refine ⟨.int _, H, I.kept (t' := tk) (fun b ob hq => kp b ob ?_ (Heap.get?_push_of_some _ hq)), ⟨t, rfl⟩, q _ (mem_of_getD (by omega)) fun a ha => ?_⟩
  ·simp only [List.mem_cons, List.not_mem_nil, or_false]
   exact Nat.ne_of_lt (Heap.lt_size hq)
  ·obtain ⟨j, hj⟩ := List.getElem?_of_mem ha
   have lj := (List.getElem?_eq_some_iff.mp hj).1
   have := hb2 j (by omega)
   rw [show ns.getD j 0 = a by rw [List.getD_eq_getElem?_getD, hj]; rfl] at this
   exact this
noncomputable def keyF : List V → Option (List Key)
 | [] => some []
 | .int i :: r => (keyF r).map (Sum.inl i :: ·)
 | _ => none
noncomputable def tDpT (td ty tv : TE) : TS := fun D σ H => tv σ H fun v H1 => td σ H1 fun x H2 => ty σ H2 fun y H3 => ∃ a b kvs xs k, x = .ref a ∧ y = .ref b ∧ H3 a = some (.dT kvs) ∧ H3 b = some (.tup xs) ∧ keyF xs = some k ∧ kvs.length < 1000000 ∧ D.nx σ (upd H3 a (.dT (putK kvs k v)))
end
end L2
set_option Elab.async false
set_option linter.all false
set_option maxRecDepth 100000
namespace L2
open PySem PySem.Spec PyProof.Rows
noncomputable def Ite (K : PySem.W.Frag) (a : Addr) : It :=
 ⟨fun i H => ∃ xs, SqL K H a xs ∧ i < xs.length,
  fun i H v H' => ∃ t, v = .ref t ∧ H t = none ∧ ∀ xs x, SqL K H a xs → xs[i]? = some x → H' = upd H t (.tup [.int (i : Int), x]),
  fun i H => ∃ xs, SqL K H a xs ∧ i = xs.length⟩
noncomputable def iEnum (K : PySem.W.Frag) (ta : TA) : TI := fun σ H R => ta σ H fun vs H1 => ∃ a, vs = [.ref a] ∧ (∃ xs, SqL K H1 a xs) ∧ R (Ite K a) H1
section
variable {X : Cx}
theorem turn_enum {P : Program} {w : World} {K : PySem.W.Frag} {elts : List Expr} {kk : Nat} {pos : Pos} (n l : Addr) (h1 : l < n) : Turn P w K (.Tuple elts kk pos) (Ite K l) [n + 1, n] (n + 1)
  (fun i h => (∃ old, IsEnum h (n + 1) n (↑i) old) ∧ h.IsListIter n l i) where
 mem := by simp
 obj := fun i h st b hb => by
  obtain ⟨⟨old, z1⟩, ⟨o1, e1, c1, d1⟩⟩ := st
  simp only [List.mem_cons, List.not_mem_nil, or_false] at hb
  rcases hb with rfl | rfl
  ·exact ⟨_, z1, fun v q => by cases q⟩
  ·exact ⟨_, e1, fun v q => by rw [d1] at q; cases q⟩
 keep := fun i h h' st k => by
  obtain ⟨⟨old, z1⟩, z4⟩ := st
  exact ⟨⟨old, k _ (by simp) _ z1⟩, z4.at fun o e => k _ (by simp) o e⟩
 item := by
  intro X hP hw hK hc i pins s σ H E I hf st hg
  subst hP hw hK
  obtain ⟨xs, q1, hi⟩ := hg
  obtain ⟨us, r1, p1, _⟩ := I.list q1
  obtain ⟨z1, z4⟩ := st
  have W := WalksT.enumerate (prog := X.prog) (w := X.w) (I.ok.hd hc) (n + 1) n l (Nat.succ_ne_self n) (Nat.ne_of_lt (Nat.lt_succ_of_lt h1)) (Nat.ne_of_lt h1) us.toArray
  have len1 := r1.length
  refine W.item i s _ _ (by simp only [List.size_toArray]; omega) ⟨z1, z4, p1.isList⟩ fun T vals h' tk hPt hT hTup hMid hk => ?_
  obtain ⟨t, u, hu, rfl⟩ := hPt
  refine ⟨.ref T, rfl, W.go elts kk pos i T _ _ _ hMid fun h'' st' hk' => ?_⟩
  obtain ⟨x, hx⟩ : ∃ x, xs[i]? = some x := ⟨_, List.getElem?_eq_getElem hi⟩
  obtain ⟨u', eu, rx⟩ := r1.get hx
  have e1 : u' = u := by
   have z : us[i]? = some u := by simpa using hu
   rw [eu] at z
   exact Option.some.inj z
  subst e1
  have ap := W.apart i T h' hMid
  have ht2 : h''.IsTuple T #[.int (i : Int) t, u'] := hTup.at fun o e => hk' T o ap e
  have J := zip_inv (x := .int (i : Int)) (tk := tk) (h' := h'') I (wr := [n + 1, n]) hf hT ht2 ⟨t, rfl⟩ rx (fun b o hb e => hk' b o hb (hk b o hb e))
  refine ⟨.ref T, _, J, rfl, ⟨T, rfl, I.hok.fresh hT, fun xs' x' a1 a3 => ?_⟩, ⟨st'.1, st'.2.1⟩, fun b hb => ?_⟩
  ·rw [I.list_inj a1 q1, hx] at a3
   cases a3
   rfl
  ·have hb0 := (hf b hb).1
   have hlt : b < s.heap.objs.size := by
    obtain ⟨old, z1⟩ := z1
    obtain ⟨o1, e1, _⟩ := z4
    simp only [List.mem_cons, List.not_mem_nil, or_false] at hb
    rcases hb with rfl | rfl
    ·exact Heap.lt_size z1
    ·exact Heap.lt_size e1
   rw [upd_ne (Nat.ne_of_lt (Nat.lt_of_lt_of_le hlt hT))]
   exact hb0
 done := by
  intro X hP hw hK hc i pins s σ H E I hf st hg
  subst hP hw hK
  obtain ⟨xs, q1, hi⟩ := hg
  obtain ⟨us, r1, p1, _⟩ := I.list q1
  obtain ⟨z1, z4⟩ := st
  have W := WalksT.enumerate (prog := X.prog) (w := X.w) (I.ok.hd hc) (n + 1) n l (Nat.succ_ne_self n) (Nat.ne_of_lt (Nat.lt_succ_of_lt h1)) (Nat.ne_of_lt h1) us.toArray
  have e : i = us.toArray.size := by
   simp only [List.size_toArray]
   rw [← r1.length]
   exact hi
  subst e
  refine W.done s _ _ ⟨z1, z4, p1.isList⟩ fun h' tk hk => ⟨rfl, ?_⟩
  have tr : ∀ b w, H b = some w → b ∉ [n + 1, n] := fun b w e z => by
   rw [(hf b z).1] at e
   cases e
  refine I.step (g' := s.gens) (d' := s.drawn) (ch := [n + 1, n]) (fun b hb => ?_) (fun b o _ _ hc e _ => hk b o hc e) (fun b o _ _ hc e _ => ⟨o.slots, hk b o hc e⟩) (fun b o hc e n => n) (fun b o hc e => ⟨o, hk b o hc e⟩) (fun b xs e => e) (fun b o w e => e) (fun b ps e => ⟨#[], by rw [e]; simp⟩) (fun m hm => ?_) (fun b w e => ?_) I.bare
  ·obtain ⟨f0, f1, f2, f3, f4, f5⟩ := hf b hb
   exact ⟨f3, f1, f4, f5⟩
  ·obtain ⟨o, es, ep, ho, r⟩ := hm
   exact ⟨o, es, ep, hk _ o (fun z => (hf _ z).2.1 rfl) ho, r⟩
  ·refine (I.hok b w e).stay (fun c z hc q => hk c z ?_ q) (fun _ q => q) fun _ _ q => q
   rcases hc with rfl | hc
   ·exact tr _ _ e
   ·exact tr _ _ hc
 self := fun A i s Q E st q => by
  obtain ⟨⟨old, z1⟩, _⟩ := st
  exact wpAny_pyIter_enum z1 q
theorem pi_enum {a : Expr} {ta : TA} {p pos tpos : Pos} {elts : List Expr} {kk : Nat} {K : PySem.W.Frag} (hK : X.K = K) (hg : Gl X "enumerate") (hm : X.mg "enumerate" = none) (ha : PA X [a] ta) (hs : starEach [a] X.env = [(false, eval a X.env)] := by rfl) :
  PI X (.Tuple elts kk tpos) (.Call (.Name "enumerate" p) [a] [] pos) (iEnum K ta) := by
 subst hK
 intro pins s σ H R I h
 refine Call_ (ld_blt I hg hm boot_enumerate (PyProof.Rows.callWith_type1 (thn (ha pos pins s σ H _ I h) fun us s1 z => ?_) hs rfl))
 obtain ⟨vs, H1, I1, r1, l, rfl, ⟨xs, q1⟩, q⟩ := z
 obtain ⟨u, rfl, ru⟩ := r1.one
 obtain rfl : u = Value.ref l := ru
 obtain ⟨is1, s1', p1, _⟩ := I1.list q1
 have b1 : l < s1.heap.objs.size := by
  obtain ⟨o, e, _⟩ := p1.isList
  exact Heap.lt_size e
 refine call_enumerate_list p1.isList fun h' hz hi1 hsz hk => ?_
 refine wpAny_pyIter_enum hz ?_
 refine ⟨_, _, _, _, H1, rfl, I1.kept (t' := s1.toks) hk, turn_enum s1.heap.objs.size l b1, ⟨⟨_, hz⟩, hi1⟩, fun b hb => ?_, q⟩
 simp only [List.mem_cons, List.not_mem_nil, or_false] at hb
 have hle : s1.heap.objs.size ≤ b := by
  rcases hb with rfl | rfl <;> omega
 exact I1.fpOk hle (I1.hok.fresh hle)
end
section
variable {K : PySem.W.Frag} {a : Addr} {xs : List V} {ta : TA} {g : TG} {tb : TS} {Dn : Ends} {σ : St} {H : Hp}
theorem tfor_enum (Ra : Addr → Hp → Prop) (ha : ∀ R : List V → Hp → Prop, (∀ a H1, Ra a H1 → R [.ref a] H1) → ta σ H R)
  (hb : ∀ a H1, Ra a H1 → ∃ xs, ∃ Pv : Nat → St → Hp → Prop, Pv 0 σ H1 ∧ (∀ i σ H, i ≤ xs.length → Pv i σ H → SqL K H a xs) ∧
   (∀ i x t σ H, xs[i]? = some x → Pv i σ H → H t = none → g (.ref t) σ (upd H t (.tup [.int (i : Int), x])) fun σ2 H2 => tb { Dn with nx := Pv (i + 1), ct := Pv (i + 1), bk := Dn.nx } σ2 H2) ∧ ∀ σ H, Pv xs.length σ H → Dn.nx σ H) :
  tFor (iEnum K ta) g tb Dn σ H := by
 refine ha _ fun a H1 q => ?_
 obtain ⟨xs, Pv, h0, hq, hs, hd⟩ := hb a H1 q
 have s1 := hq 0 σ H1 (Nat.zero_le _) h0
 refine ⟨a, rfl, ⟨xs, s1⟩, fun i m σ H => Pv i σ H ∧ i ≤ xs.length ∧ m = xs.length - i, ⟨_, h0, Nat.zero_le _, rfl⟩, ?_⟩
 rintro i m σ H ⟨p, hi, rfl⟩
 have s1 := hq i σ H hi p
 rcases Nat.lt_or_eq_of_le hi with hi | hi
 ·right
  refine ⟨⟨xs, s1, by omega⟩, fun σ' H' => Pv (i + 1) σ' H', fun σ' H' p' => ⟨xs.length - (i + 1), by omega, p', by omega, rfl⟩, ?_⟩
  rintro v H' ⟨t, rfl, hn, e⟩
  obtain ⟨x, hx⟩ : ∃ x, xs[i]? = some x := ⟨_, List.getElem?_eq_getElem hi⟩
  rw [e xs x s1 hx]
  exact hs i x t σ H hx p hn
 ·left
  exact ⟨⟨xs, s1, by omega⟩, hd σ H (hi ▸ p)⟩
end
noncomputable def rInD (K : PySem.W.Frag) : R2 := fun x y H Q => ∃ d ds, Rdy K H x d ∧ Rdy K H y (.list ds) ∧ SeqAt.shaped d = true ∧ SeqAt.shaped (.list ds) = true ∧ (∀ y ∈ ds, SeqAt.noMix y d = true) ∧ Q (.bl (decide (Spec.countIn d ds ≠ 0))) H
theorem op_inDK {X : Cx} {K : PySem.W.Frag} (hK : X.K = K) (hu : X.A.units + 65 < cLine) : OpR X (compareOp .In) (rInD K) := by
 subst hK
 intro pins s σ H x y v u Q I rx ry h
 obtain ⟨d, ds, h1, h2, s1, s2, nm, q⟩ := h
 obtain ⟨as, r1⟩ := h1.reads I rx
 obtain ⟨bs, r2⟩ := h2.reads I ry
 exact in_list_dataH r2 r1 s2 s1 hu nm ⟨.bl _, H, I, rfl, q⟩
theorem pe_globI {X : Cx} {x : Str} {i : Int} {pos : Pos} (hg : Gl X x) (hm : ∃ t, X.mg x = some (.int i t)) (hd : (x == ("__debug__" : Str)) = false := by decide) : PE X (.Name x pos) (tC (.int i)) := by
 obtain ⟨t, hm⟩ := hm
 exact pe_glob hg hm ⟨t, rfl⟩ hd
end L2
set_option Elab.async false
set_option linter.all false
set_option maxRecDepth 100000
set_option Elab.async false
set_option linter.all false
set_option maxRecDepth 100000
set_option Elab.async false
set_option linter.all false
set_option maxRecDepth 100000
namespace L2
open PySem PySem.Spec PyProof.Rows
section
variable {X : Cx}
noncomputable def clrR : V → List V → Hp → VK → Prop := fun x vs H Q => match x, vs with
 | .ref l, [] => optK (lstOf (H l)) fun _ => Q .non (upd H l (.lst []))
 | _, _ => False
variable {o : Expr} {to : TE} {apos cpos : Pos}
theorem mt_clrF : MtM X "list.clear" clrR := by
 intro pins s σ H x vs v us Q I rx rv h
 unfold clrR at h
 split at h
 ·rename_i l
  obtain ⟨xs, e, q⟩ := optK_elim h
  exact mt_clear pins s σ H _ _ v us Q I rx rv ⟨l, xs, rfl, rfl, lstOf_eq e, q⟩
 ·exact h.elim
theorem pe_clr0 (ho : PE X o to) (hbase : attributeBase o "clear" X.env (eval o X.env) = eval o X.env := by rfl) (hline : (apos.endLine == cpos.line) = true := by rfl) : PE X (.Call (.Attribute o "clear" apos) [] [] cpos) (tML0 clrR to) := by
 intro pins s σ H Q I h
 refine pe_bm0 PySem.F.plainAttrs_list PySem.F.slot_list_clear PySem.F.type_list_clear mt_clrF ho.up hbase hline pins s σ H Q I ⟨_, h, fun x H1 q => ?_⟩
 cases x with
 | ref l =>
  obtain ⟨h1, h2⟩ := q
  obtain ⟨xs, e⟩ := Option.isSome_iff_exists.mp h1
  exact ⟨.inl ⟨rfl, xs, SqL.of (lstOf_eq e)⟩, h2⟩
 | _ => exact q.elim
end
end L2
set_option Elab.async false
set_option linter.all false
set_option maxRecDepth 100000
namespace L2
open PySem
mutual
noncomputable def plainD : PyData → Bool
 | .int _ => true
 | .none => true
 | .list xs => plainDs xs
 | .tuple xs => plainDs xs
 | _ => false
noncomputable def plainDs : List PyData → Bool
 | [] => true
 | x :: xs => plainD x && plainDs xs
end
mutual
theorem eqv_iff : ∀ (d e : PyData), plainD d = true → plainD e = true → (PyData.eqv d e = true ↔ d = e)
 | .int a, e, _, he => by
  cases e <;> simp [PyData.eqv, plainD] at he ⊢
 | .none, e, _, he => by
  cases e <;> simp [PyData.eqv, plainD] at he ⊢
 | .list xs, e, hd, he => by
  cases e with
  | list ys =>
   simp only [plainD] at hd he
   simp only [PyData.eqv, PyData.list.injEq]
   exact eqvAll_iff xs ys hd he
  | _ => simp [PyData.eqv, plainD] at he ⊢
 | .tuple xs, e, hd, he => by
  cases e with
  | tuple ys =>
   simp only [plainD] at hd he
   simp only [PyData.eqv, PyData.tuple.injEq]
   exact eqvAll_iff xs ys hd he
  | _ => simp [PyData.eqv, plainD] at he ⊢
 | .bool _, e, hd, _ => by simp [plainD] at hd
 | .str _, e, hd, _ => by simp [plainD] at hd
 | .dict _, e, hd, _ => by simp [plainD] at hd
theorem eqvAll_iff : ∀ (xs ys : List PyData), plainDs xs = true → plainDs ys = true → (PyData.eqvAll xs ys = true ↔ xs = ys)
 | [], [], _, _ => by simp [PyData.eqvAll]
 | [], y :: ys, _, _ => by simp [PyData.eqvAll]
 | x :: xs, [], _, _ => by simp [PyData.eqvAll]
 | x :: xs, y :: ys, hx, hy => by
  simp only [plainDs, Bool.and_eq_true] at hx hy
  simp only [PyData.eqvAll, Bool.and_eq_true, List.cons.injEq]
  rw [eqv_iff x y hx.1 hy.1, eqvAll_iff xs ys hx.2 hy.2]
end
end L2
namespace L2
open PySem PySem.Spec PyProof.Rows
noncomputable def rNotInD (K : PySem.W.Frag) : R2 := fun x y H Q => ∃ d ds, Rdy K H x d ∧ Rdy K H y (.list ds) ∧ SeqAt.shaped d = true ∧ SeqAt.shaped (.list ds) = true ∧ (∀ y ∈ ds, SeqAt.noMix y d = true) ∧ Q (.bl (!decide (Spec.countIn d ds ≠ 0))) H
theorem op_notInDK {X : Cx} {K : PySem.W.Frag} (hK : X.K = K) (hu : X.A.units + 65 < cLine) : OpR X (compareOp .NotIn) (rNotInD K) := by
 subst hK
 intro pins s σ H x y v u Q I rx ry h
 obtain ⟨d, ds, h1, h2, s1, s2, nm, q⟩ := h
 obtain ⟨as, r1⟩ := h1.reads I rx
 obtain ⟨bs, r2⟩ := h2.reads I ry
 exact notIn_list_dataH r2 r1 s2 s1 hu nm ⟨.bl _, H, I, rfl, q⟩
end L2
namespace L2
open PySem
section
variable {ta : TA} {g : TG} {tb : TS} {Dn : Ends} {σ : St} {H : Hp}
theorem tfor_rangeH (Pn : Nat → Hp → Prop) (ha : ∀ R : List V → Hp → Prop, (∀ (n : Nat) H1, Pn n H1 → R [.int n] H1) → ta σ H R)
  (hb : ∀ n H1, Pn n H1 → n < 1000000 ∧ ∃ Pv : Nat → St → Hp → Prop, Pv 0 σ H1 ∧ (∀ i σ H, i < n → Pv i σ H → g (.int (0 + (i : Int))) σ H fun σ2 H2 => tb { Dn with nx := Pv (i + 1), ct := Pv (i + 1), bk := Dn.nx } σ2 H2) ∧ ∀ σ H, Pv n σ H → Dn.nx σ H) : tFor (iRng1 ta) g tb Dn σ H :=
 ha _ fun n H1 hn => by
  obtain ⟨h1, Pv, h0, hs, hd⟩ := hb n H1 hn
  exact ⟨n, rfl, by omega, by omega, for_range (lo := 0) (n := (n : Int).toNat) Pv h0 (fun i σ H hi p => hs i σ H (by simpa using hi) p) (fun σ H p => hd σ H (by simpa using p))⟩
end
end L2
namespace L2
open PySem PySem.Spec PyProof.Rows
section
variable {g : TG} {tt : TT} {te tl : TE} {k : Nat} {js : List Nat} {σ : St} {Q : VK} {H : Hp} {K : PySem.W.Frag}
theorem tlc_list_up (R : VK) (h : tl σ H R)
  (hb : ∀ x H1, R x H1 → ∃ (a : Addr) (xs : List V), x = .ref a ∧ SqL K H1 a xs ∧ xs.length < 1000000 ∧ ∃ Pv : Addr → Nat → List V → Hp → Prop, (∀ D, H1 D = none → Pv D 0 [] (upd H1 D (.lst []))) ∧
   (∀ D i ys H, i ≤ xs.length → Pv D i ys H → H D = some (.lst ys) ∧ ys.length ≤ i ∧ SqL K H a xs) ∧
   (∀ D i x ys H2, H1 D = none → xs[i]? = some x → Pv D i ys H2 → g x (L2.stLC σ k js) H2 fun σ2 H3 => (σ2.drop k = frV σ js ∧ σ2.length = k + js.length) ∧ tt σ2 H3 fun b H4 => if b = true then te σ2 H4 fun y H5 => H5 D = some (.lst ys) ∧ Pv D (i + 1) (ys ++ [y]) (upd H5 D (.lst (ys ++ [y]))) else Pv D (i + 1) ys H4) ∧
   ∀ D ys H2, H1 D = none → Pv D xs.length ys H2 → Q (.ref D) H2) : tLC (iList K (tUp tl)) k js g tt te σ H Q := by
 refine ⟨R, h, fun x H1 q => ?_⟩
 obtain ⟨a, xs, rfl, hq, hn, Pv, h0, hl, hs, hd⟩ := hb x H1 q
 exact ⟨a, rfl, ⟨xs, hq⟩, fun D hD => lc_list (Pv D) (h0 D hD) (Nat.lt_trans hn (by decide)) (fun i ys H hi p => hl D i ys H hi p) (fun i x ys H hi p => hs D i x ys H hD hi p) (fun ys H p => hd D ys H hD p)⟩
end
end L2
namespace L2
open PySem
theorem pa_consS {X : Cx} {a b : Expr} {p : Pos} {es : List Expr} {te : TE} {t : TA} (ha : PE X (.Subscript a b p) te) (hr : PA X es t) : PA X (.Subscript a b p :: es) (tCons te t) := pa_cons ha hr rfl
end L2
set_option Elab.async false
set_option linter.all false
set_option maxRecDepth 100000
namespace L2
open PySem PyProof PyProof.Rows
noncomputable def rSortI (K : PySem.W.Frag) : List V → Hp → VK → Prop := fun xs H Q => ∃ (l : Addr) (ns : List Int), xs = [.ref l] ∧ SqL K H l (ns.map V.int) ∧ ns.length < 64 ∧ ∀ (D : Addr) (ns' : List Int), H D = none → ns'.Perm ns → ns'.Pairwise (· ≤ ·) → Q (.ref D) (upd H D (.lst (ns'.map V.int)))
section
variable {X : Cx}
theorem vals_of_ints : ∀ {us : List Value} {ns : List Int}, IntsAre us ns → Vals (ns.map V.int) us
 | _, _, .nil => .nil
 | _, _, .cons n t h => .cons ⟨t, rfl⟩ (vals_of_ints h)
theorem call_sortI {K : PySem.W.Frag} (hK : X.K = K) : CallR X (.builtin "sorted") (rSortI K) := by
 subst hK
 intro pins s σ H xs us Q I r h
 obtain ⟨l, ns, rfl, hl, h64, q⟩ := h
 obtain ⟨u, rfl, rx⟩ := vals1 r
 cases rx
 obtain ⟨its, r', pl, hz⟩ := I.list hl
 have hI : IntsAre its ns := intsAre_of r'
 refine sorted_ints pl.isList hI (by have := r'.length; rw [List.length_map] at this; omega) fun out ns' a1 a2 a3 => ?_
 obtain ⟨e, he⟩ := sortedAll_at s.heap its out
 refine ⟨.ref _, _, I.laid (t' := s.toks) (o := .lst (ns'.map V.int)) (fun b ob q => sortedAll_old q) (Nat.le_succ _) ?_, rfl, q _ ns' (I.hok.fresh (Nat.le_succ _)) a2 a3⟩
 refine ⟨?_, out.toList, e, vals_of_ints a1, ?_⟩
 ·rw [List.length_map, a2.length_eq]
  have : 64 ≤ sizeLine := by decide
  omega
 ·exact he
end
end L2
set_option Elab.async false
set_option linter.all false
set_option maxRecDepth 100000
namespace L2
open PySem PySem.Spec PyProof.Rows
section
variable {X : Cx} {a b : Expr} {ta tb : TE} {pos : Pos}
noncomputable def fVar (i : Nat) : TE := fun σ H Q => match σ[i]? with
 | some (some v) => Q v H
 | _ => False
theorem pvF (i : Nat) {x : Str} (hN : X.N[i]? = some x := by rfl) (hv : Vis X.env.scope x := by first | exact Or.inl rfl | exact Or.inr (Or.inl rfl) | exact Or.inr (Or.inr rfl)) (hd : (x == ("__debug__" : Str)) = false := by decide)
  (hcd : (x == ("__classdict__" : Str)) = false := by decide) : PE X (.Name x pos) (fVar i) := by
 intro pins s σ H Q I h
 refine pv i hN hv hd hcd pins s σ H Q I ?_
 unfold fVar at h
 split at h
 ·exact ⟨_, ‹_›, h⟩
 ·exact h.elim
noncomputable def fI (C : Int → Int → Prop) (g : Int → Int → V) : R2 := fun x y H Q => match x, y with
 | .int i, .int j => C i j ∧ Q (g i j) H
 | _, _ => False
noncomputable def fI0 (g : Int → Int → V) : R2 := fun x y H Q => match x, y with
 | .int i, .int j => Q (g i j) H
 | _, _ => False
noncomputable def fU (g : Int → V) : V → Hp → VK → Prop := fun x H Q => match x with
 | .int i => Q (g i) H
 | _ => False
theorem OpR.f {F : Value → Value → Sem Value} {C : Int → Int → Prop} {g : Int → Int → V} (h : OpR X F (rI C g)) : OpR X F (fI C g) := by
 intro pins s σ H x y v u Q I r1 r2 q
 refine h pins s σ H x y v u Q I r1 r2 ?_
 unfold fI at q
 split at q
 ·exact ⟨_, _, rfl, rfl, q.1, q.2⟩
 ·exact q.elim
theorem OpR.f0 {F : Value → Value → Sem Value} {g : Int → Int → V} (h : OpR X F (rI0 g)) : OpR X F (fI0 g) := by
 intro pins s σ H x y v u Q I r1 r2 q
 refine h pins s σ H x y v u Q I r1 r2 ?_
 unfold fI0 at q
 split at q
 ·exact ⟨_, _, rfl, rfl, q⟩
 ·exact q.elim
theorem UnR.f {F : Value → Sem Value} {g : Int → V} (h : UnR X F (rU g)) : UnR X F (fU g) := by
 intro pins s σ H x v Q I r1 q
 refine h pins s σ H x v Q I r1 ?_
 unfold fU at q
 split at q
 ·exact ⟨_, rfl, q⟩
 ·exact q.elim
noncomputable def fEq : R2 := fun x y H Q => match x, y with
 | .int i, .int j => Q (.bl (decide (i = j))) H
 | _, _ => rEq x y H Q
noncomputable def fNe : R2 := fun x y H Q => match x, y with
 | .int i, .int j => Q (.bl (!decide (i = j))) H
 | _, _ => rNe x y H Q
theorem OpR.e {F : Value → Value → Sem Value} (h : OpR X F rEq) : OpR X F fEq := by
 intro pins s σ H x y v u Q I r1 r2 q
 refine h pins s σ H x y v u Q I r1 r2 ?_
 unfold fEq at q
 split at q
 ·refine ⟨rfl, ?_⟩
  simpa only [V.int.injEq] using q
 ·exact q
theorem OpR.n {F : Value → Value → Sem Value} (h : OpR X F rNe) : OpR X F fNe := by
 intro pins s σ H x y v u Q I r1 r2 q
 refine h pins s σ H x y v u Q I r1 r2 ?_
 unfold fNe at q
 split at q
 ·refine ⟨rfl, ?_⟩
  simpa only [V.int.injEq] using q
 ·exact q
theorem op_eqI : OpR X (compareOp .Eq) (fI0 fun i j => .bl (decide (i = j))) := OpR.f0 (opB0 fun _ _ _ _ _ _ _ q => eq_int q)
theorem op_neI : OpR X (compareOp .NotEq) (fI0 fun i j => .bl (!decide (i = j))) := OpR.f0 (opB0 fun _ _ _ _ _ _ _ q => ne_int q)
noncomputable def fNeB : R2 := fun x y H Q => match x, y with
 | .bl i, .bl j => Q (.bl (!decide (i = j))) H
 | _, _ => False
noncomputable def fTest (t : TE) : TT := fun σ H Q => t σ H fun x H' => match x with
 | .bl k => Q k H'
 | _ => False
theorem pt_cmpF {op : CmpOp} {r : R2} (ho : OpR X (compareOp op) r) (ha : PE X a ta) (hb : PE X b tb) (hm : behindInMarks op b = false) : PT X (.Compare a [op] [b] pos) (fTest (tOp r ta tb)) := by
 intro pins s σ H Q I h
 refine wpAny_isTrue_Compare1 (thn (ha pins s σ H _ I h) fun v s1 ⟨x, H1, I1, r1, q1⟩ => thn (hb pins s1 σ H1 _ I1 q1) fun u s2 ⟨y, H2, I2, r2, q2⟩ =>
  thn (ho pins s2 σ H2 x y v u _ I2 r1 r2 q2) fun c s3 ⟨z, H3, I3, r3, q3⟩ => ?_) hm
 dsimp only at q3
 split at q3
 ·cases r3
  exact wpAny_truthy_bool ⟨H3, I3, q3⟩
 ·exact q3.elim
noncomputable def fCons (t : TG) (u : TGs) : TGs := fun vs σ H Q => match vs with
 | v :: r => t v σ H fun σ' H' => u r σ' H' Q
 | [] => False
noncomputable def fNil : TGs := fun vs σ H Q => match vs with
 | [] => Q σ H
 | _ => False
theorem pgs_nilF : PGs X [] fNil := by
 intro pins s σ H vs us Q I r h
 refine pgs_nil pins s σ H vs us Q I r ?_
 unfold fNil at h
 split at h
 ·exact ⟨rfl, h⟩
 ·exact h.elim
theorem pgs_consF {e : Expr} {es : List Expr} {t : TG} {u : TGs} (h1 : PG X e t) (h2 : PGs X es u)
  (hs : (assignEach (e :: es) X.env).map (·.2) = assign e X.env :: (assignEach es X.env).map (·.2) := by rfl) : PGs X (e :: es) (fCons t u) := by
 intro pins s σ H vs us Q I r h
 refine pgs_cons h1 h2 hs pins s σ H vs us Q I r ?_
 unfold fCons at h
 split at h
 ·exact ⟨_, _, rfl, h⟩
 ·exact h.elim
theorem pt_valF {e : Expr} {t : TE} (h : PE X e t) (he : ∀ whole, isTrue e X.env whole = (do let v ← whole; standAt e.pos; holding [v] (truthy v)) := by intro _; rfl) : PT X e (fTest t) := by
 intro pins s σ H Q I hw
 refine isTrue_plain (thn (h pins s σ H _ I hw) fun v s1 ⟨x, H1, I1, r1, q1⟩ => ?_) (he _)
 dsimp only at q1
 split at q1
 ·cases r1
  exact wpAny_truthy_bool ⟨H1, I1, q1⟩
 ·exact q1.elim
end
end L2
set_option Elab.async false
set_option linter.all false
set_option maxRecDepth 100000
namespace L2
open PySem PySem.Spec PyProof.Rows
noncomputable def tDgI (td ti : TE) : TE := fun σ H Q => td σ H fun x H1 => ti σ H1 fun y H2 => match x, y with
 | .ref a, .int i => optK (dkOf (H2 a)) fun kvs => optK (valV kvs (Sum.inl i)) fun v => Q v H2
 | _, _ => False
noncomputable def tDpI (td ti tv : TE) : TS := fun D σ H => tv σ H fun v H1 => td σ H1 fun x H2 => ti σ H2 fun y H3 => match x, y with
 | .ref a, .int i => optK (dkOf (H3 a)) fun kvs => kvs.length < 1000000 ∧ D.nx σ (upd H3 a (.dK (putK kvs (Sum.inl i) v)))
 | _, _ => False
noncomputable def tDgetI (td ti tx : TE) : TE := fun σ H Q => td σ H fun x H1 => match x with
 | .ref a => (dkOf (H1 a)).isSome = true ∧ ti σ H1 fun y H2 => tx σ H2 fun z H3 => match y with
  | .int i => optK (dkOf (H3 a)) fun kvs => Q ((valV kvs (Sum.inl i)).getD z) H3
  | _ => False
 | _ => False
noncomputable def popAtR : V → List V → Hp → VK → Prop := fun x vs H Q => match x, vs with
 | .ref l, [.int i] => optK (lstOf (H l)) fun xs => xs.length < 1000000 ∧ optK (ixN xs.length i) fun k => optK (xs[k]?) fun y => Q y (upd H l (.lst (xs.eraseIdx k)))
 | _, _ => False
noncomputable def revR : V → List V → Hp → VK → Prop := fun x vs H Q => match x, vs with
 | .ref l, [] => optK (lstOf (H l)) fun xs => Q .non (upd H l (.lst xs.reverse))
 | _, _ => False
noncomputable def insAt (n : Nat) (i : Int) : Nat := if i < 0 then (i + (n : Int)).toNat else min i.toNat n
noncomputable def insR : V → List V → Hp → VK → Prop := fun x vs H Q => match x, vs with
 | .ref l, [.int i, y] => optK (lstOf (H l)) fun xs => xs.length < 1000000 ∧ (-(2 ^ 63) ≤ i ∧ i < 2 ^ 63) ∧ Q .non (upd H l (.lst (xs.take (insAt xs.length i) ++ [y] ++ xs.drop (insAt xs.length i))))
 | _, _ => False
end L2
set_option Elab.async false
set_option linter.all false
set_option maxRecDepth 100000
namespace L2
open PySem PySem.Spec PyProof.Rows
noncomputable def rRng1 : List V → Hp → VK → Prop := fun vs H Q => ∃ n : Nat, vs = [.int (n : Int)] ∧ n ≤ 1000000 ∧ ∀ r, H r = none → Q (.ref r) (upd H r (.rng 0 (n : Int)))
noncomputable def rLstRng : List V → Hp → VK → Prop := fun vs H Q => ∃ (r : Addr) (n : Nat), vs = [.ref r] ∧ H r = some (.rng 0 (n : Int)) ∧ n ≤ 1000000 ∧ ∀ D, H D = none → Q (.ref D) (upd H D (.lst ((List.range n).map fun j : Nat => V.int (j : Int))))
section
variable {X : Cx}
theorem call_rng1 : CallR X (.type "range") rRng1 := by
 intro pins s σ H xs us Q I r h
 obtain ⟨n, rfl, hn, q⟩ := h
 obtain ⟨u, rfl, ru⟩ := vals1 r
 obtain ⟨t, rfl⟩ := ru
 refine call_range_1 ?_
 refine ⟨.ref s.heap.objs.size, _, I.laid (t' := s.toks + 1 + 1) (o := .rng 0 (n : Int)) (fun b ob e => Heap.get?_push_of_some _ e) (Nat.le_refl _) ?_, rfl, q _ (I.hok.fresh (Nat.le_refl _))⟩
 exact ⟨_, _, _, Heap.get?_push_size _ rfl⟩
theorem call_lstRng (hcalm : X.calm = true) : CallR X (.type "list") rLstRng := by
 intro pins s σ H xs us Q I r h
 obtain ⟨a, n, rfl, hr, hn, q⟩ := h
 obtain ⟨u, rfl, ru⟩ := vals1 r
 cases ru
 obtain ⟨t, u, v, e⟩ := I.hok a _ hr
 have hsz : Builtin.Range.rangeSize 0 (n : Int) 1 = n := by rw [rangeSize_one]; split <;> omega
 refine call_list_range (n := n) (I.ok.hd hcalm) (a := 0) (b := (n : Int)) (c := 1) (t := t) (u := u) (v := v) e (small_one (by omega) (by omega) (by omega) (by omega)) hsz (by omega) fun h' tk acc' c' kp hl hit => ?_
 refine ⟨.ref s.heap.objs.size, _, I.laid (t' := tk) (o := .lst ((List.range n).map fun j : Nat => V.int (j : Int))) kp (Nat.le_refl _) ?_, rfl, q _ (I.hok.fresh (Nat.le_refl _))⟩
 refine ⟨?_, acc'.toList, c', ?_, hl⟩
 ·rw [List.length_map, List.length_range]
  have : 1000000 ≤ sizeLine := by decide
  omega
 ·have key : ∀ (k : Nat), k ≤ n → Vals ((List.range k).map fun j : Nat => V.int (j : Int)) (acc'.toList.take k) := by
   intro k
   induction k with
   | zero => intro _; exact .nil
   | succ k ih =>
    intro hk
    have hlt : k < acc'.size := by rw [hit.1]; omega
    obtain ⟨t, et⟩ := hit.2 k acc'[k] (Array.getElem?_eq_getElem hlt)
    rw [List.range_succ, List.map_append, List.take_succ]
    have e3 : acc'.toList[k]? = some acc'[k] := by rw [Array.getElem?_toList, Array.getElem?_eq_getElem hlt]
    rw [e3]
    refine (ih (by omega)).append (.cons ?_ .nil)
    refine ⟨t, ?_⟩
    rw [et]
    congr 1
    omega
  have := key n (Nat.le_refl _)
  rwa [List.take_of_length_le (by rw [Array.length_toList, hit.1]; exact Nat.le_refl _)] at this
end
end L2
set_option Elab.async false
set_option linter.all false
set_option maxRecDepth 100000
set_option Elab.async false
set_option linter.all false
set_option maxRecDepth 100000
namespace SR
open PySem PySem.W PyProof.Rows
noncomputable def evT (lt : Nat → Nat → Bool) {α : Type} : KasT α → α
 | .ret a => a
 | .ask i j k => evT lt (k (lt i j))
theorem evT_bind (lt : Nat → Nat → Bool) {α β : Type} (f : α → KasT β) : ∀ t : KasT α, evT lt (t.bind f) = evT lt (f (evT lt t))
 | .ret _ => rfl
 | .ask i j k => evT_bind lt f (k (lt i j))
noncomputable abbrev g (p : Array Nat) (i : Nat) : Nat := p.getD i 0
theorem g_of {p q : Array Nat} {i j : Nat} (h : p[i]? = q[j]?) : g p i = g q j := by
 unfold g
 rw [Array.getD_eq_getD_getElem?, Array.getD_eq_getD_getElem?, h]
structure Ord (lt : Nat → Nat → Bool) : Prop where
 as : ∀ a b, lt a b = true → lt b a = false
 tr : ∀ a b c, lt b a = false → lt c b = false → lt c a = false
noncomputable def sl (lt : Nat → Nat → Bool) (a b : Nat) : Prop := lt a b = true ∨ (lt b a = false ∧ a < b)
section
variable {lt : Nat → Nat → Bool} (O : Ord lt)
include O
theorem sl_le {a b : Nat} (h : sl lt a b) : lt b a = false := h.elim (O.as a b) fun q => q.1
theorem lt_le {a b c : Nat} (h1 : lt a b = true) (h2 : lt c b = false) : lt a c = true := by
 cases e : lt a c with
 | true => rfl
 | false =>
  have := O.tr _ _ _ h2 e
  rw [h1] at this
  cases this
theorem le_lt {a b c : Nat} (h1 : lt b a = false) (h2 : lt b c = true) : lt a c = true := by
 cases e : lt a c with
 | true => rfl
 | false =>
  have := O.tr _ _ _ e h1
  rw [h2] at this
  cases this
theorem sl_trans {a b c : Nat} (h1 : sl lt a b) (h2 : sl lt b c) : sl lt a c := by
 rcases h1 with q | ⟨q1, q2⟩
 ·exact .inl (lt_le O q (sl_le O h2))
 ·rcases h2 with r | ⟨r1, r2⟩
  ·exact .inl (le_lt O q1 r)
  ·exact .inr ⟨O.tr _ _ _ q1 r1, by omega⟩
end
noncomputable def Asc (lt : Nat → Nat → Bool) (p : Array Nat) (m : Nat) : Prop := ∀ i j, i < j → j < m → sl lt (g p i) (g p j)
noncomputable def Dsc (lt : Nat → Nat → Bool) (p : Array Nat) (m : Nat) : Prop := ∀ i j, i < j → j < m → sl lt (g p j) (g p i)
structure Pre (N : Nat) (p : Array Nat) (n : Nat) : Prop where
 sz : p.size = N
 pm : p.Perm (List.toArray (List.range N))
 hi : ∀ k, n ≤ k → k < N → g p k = k
 lo : ∀ k, k < n → g p k < n
 le : n ≤ N
theorem g_rev {p : Array Nat} {i j : Nat} (hj : j ≤ p.size) (k : Nat) : g (kas_rev p i j) k = if i ≤ k ∧ k < j then g p (i + j - 1 - k) else g p k := by
 have e := getElem?_mirror_all (i := i) hj k
 by_cases h : i ≤ k ∧ k < j
 ·rw [if_pos h] at e ⊢
  exact g_of e
 ·rw [if_neg h] at e ⊢
  exact g_of e
theorem Pre.rev {N n : Nat} {p : Array Nat} (h : Pre N p n) {i j : Nat} (hj : j ≤ n) : Pre N (kas_rev p i j) n := by
 have z := h.sz
 have l := h.le
 refine ⟨(mirror_size _ _ _ _).trans h.sz, (mirror_perm _ _ _ _).trans h.pm, fun k h1 h2 => ?_, fun k hk => ?_, h.le⟩
 ·rw [g_rev (by omega), if_neg (by omega)]
  exact h.hi k h1 h2
 ·rw [g_rev (by omega)]
  split
  ·exact h.lo _ (by omega)
  ·exact h.lo k hk
theorem Pre.succ {N n : Nat} {p : Array Nat} (h : Pre N p n) (hn : n < N) : Pre N p (n + 1) := by
 refine ⟨h.sz, h.pm, fun k h1 h2 => h.hi k (by omega) h2, fun k hk => ?_, hn⟩
 by_cases e : k = n
 ·rw [e, h.hi n (Nat.le_refl _) hn]
  omega
 ·have := h.lo k (by omega)
  omega
section
variable {lt : Nat → Nat → Bool} (O : Ord lt) {N : Nat}
include O
theorem asc_step {p : Array Nat} {n : Nat} (h : Asc lt p n) (hP : Pre N p n) (hn : n < N) (h1 : 1 ≤ n) (c : lt (g p n) (g p (n - 1)) = false) : Asc lt p (n + 1) := fun i j hij hj => by
 by_cases e : j = n
 ·subst e
  have last : sl lt (g p (j - 1)) (g p j) := .inr ⟨c, by rw [hP.hi j (Nat.le_refl _) hn]; exact hP.lo _ (by omega)⟩
  by_cases e2 : i = j - 1
  ·rw [e2]
   exact last
  ·exact sl_trans O (h i (j - 1) (by omega) (by omega)) last
 ·exact h i j hij (by omega)
theorem asc_ok {p : Array Nat} : ∀ (f n : Nat), Asc lt p n → Pre N p n → 1 ≤ n → n + f = N → ∃ m, evT lt (kas_asc p f n) = m ∧ n ≤ m ∧ m ≤ N ∧ Asc lt p m ∧ Pre N p m ∧ (m < N → lt (g p m) (g p (m - 1)) = true)
 | 0, n, h, hP, h1, e => ⟨n, rfl, Nat.le_refl _, by omega, h, hP, fun q => by omega⟩
 | f + 1, n, h, hP, h1, e => by
  show ∃ m, evT lt (if lt (g p n) (g p (n - 1)) = true then KasT.ret n else kas_asc p f (n + 1)) = m ∧ _
  by_cases c : lt (g p n) (g p (n - 1)) = true
  ·rw [if_pos c]
   exact ⟨n, rfl, Nat.le_refl _, by omega, h, hP, fun _ => c⟩
  ·rw [if_neg c]
   have c' : lt (g p n) (g p (n - 1)) = false := by simpa using c
   obtain ⟨m, e1, e2, e3, e4, e5, e6⟩ := asc_ok f (n + 1) (asc_step O h hP (by omega) h1 c') (hP.succ (by omega)) (by omega) (by omega)
   exact ⟨m, e1, by omega, e3, e4, e5, e6⟩
end
structure Dn (lt : Nat → Nat → Bool) (p : Array Nat) (n q : Nat) : Prop where
 qn : q + 1 ≤ n
 d1 : ∀ i j, i < j → j < n - (q + 1) → sl lt (g p j) (g p i)
 d2 : ∀ i j, i < n - (q + 1) → n - (q + 1) ≤ j → j < n → lt (g p j) (g p i) = true
 d3 : ∀ i j, n - (q + 1) ≤ i → i < j → j < n → lt (g p j) (g p i) = false ∧ lt (g p i) (g p j) = false ∧ g p i < g p j
section
variable {lt : Nat → Nat → Bool} (O : Ord lt) {N : Nat}
include O
theorem Dn.close {p : Array Nat} {n q : Nat} (h : Dn lt p n q) (hn : n ≤ p.size) : Dsc lt (if q > 0 then kas_rev p (n - (q + 1)) n else p) n := fun i j hij hj => by
 have qn := h.qn
 have val : ∀ k, k < n → g (if q > 0 then kas_rev p (n - (q + 1)) n else p) k = if n - (q + 1) ≤ k then g p (n - (q + 1) + n - 1 - k) else g p k := fun k hk => by
  by_cases c : q > 0
  ·rw [if_pos c, g_rev hn]
   by_cases c2 : n - (q + 1) ≤ k
   ·rw [if_pos ⟨c2, hk⟩, if_pos c2]
   ·rw [if_neg (fun z => c2 z.1), if_neg c2]
  ·rw [if_neg c]
   split
   ·congr 1
    omega
   ·rfl
 rw [val i (by omega), val j hj]
 by_cases c : n - (q + 1) ≤ i
 ·rw [if_pos c, if_pos (by omega)]
  obtain ⟨a, b, e⟩ := h.d3 (n - (q + 1) + n - 1 - j) (n - (q + 1) + n - 1 - i) (by omega) (by omega) (by omega)
  exact .inr ⟨a, e⟩
 ·rw [if_neg c]
  by_cases c2 : n - (q + 1) ≤ j
  ·rw [if_pos c2]
   exact .inl (h.d2 i _ (by omega) (by omega) (by omega))
  ·rw [if_neg c2]
   exact h.d1 i j hij (by omega)
theorem Dn.eqs {p : Array Nat} {n q : Nat} (h : Dn lt p n q) {i : Nat} (h1 : n - (q + 1) ≤ i) (h2 : i < n) : lt (g p i) (g p (n - 1)) = false ∧ lt (g p (n - 1)) (g p i) = false := by
 by_cases e : i = n - 1
 ·subst e
  have : ∀ a, lt a a = false := fun a => by
   cases q : lt a a with
   | false => rfl
   | true => rw [O.as a a q] at q; cases q
  exact ⟨this _, this _⟩
 ·obtain ⟨a, b, _⟩ := h.d3 i (n - 1) h1 (by omega) (by omega)
  exact ⟨b, a⟩
theorem desc_ok : ∀ (f : Nat) (p : Array Nat) (n q : Nat), Dn lt p n q → Pre N p n → n + f = N → ∃ p' n' q', evT lt (kas_desc f p n q) = (p', n', q') ∧ Dn lt p' n' q' ∧ Pre N p' n' ∧ n ≤ n'
 | 0, p, n, q, h, hP, e => ⟨p, n, q, rfl, h, hP, Nat.le_refl _⟩
 | f + 1, p, n, q, h, hP, e => by
  have qn := h.qn
  have z := hP.sz
  show ∃ p' n' q', evT lt (if lt (g p n) (g p (n - 1)) = true then (if q > 0 then kas_desc f (kas_rev p (n - (q + 1)) n) (n + 1) 0 else kas_desc f p (n + 1) 0) else .ask (p.getD (n - 1) 0) (p.getD n 0) fun d => if d = true then .ret (p, n, q) else kas_desc f p (n + 1) (q + 1)) = (p', n', q') ∧ _
  by_cases c : lt (g p n) (g p (n - 1)) = true
  ·rw [if_pos c]
   have ds := Dn.close O h (by omega)
   have eq2 : (if q > 0 then kas_desc f (kas_rev p (n - (q + 1)) n) (n + 1) 0 else kas_desc f p (n + 1) 0) = kas_desc f (if q > 0 then kas_rev p (n - (q + 1)) n else p) (n + 1) 0 := by split <;> rfl
   rw [eq2]
   have hP' : Pre N (if q > 0 then kas_rev p (n - (q + 1)) n else p) n := by
    split
    ·exact hP.rev (Nat.le_refl _)
    ·exact hP
   have low : ∀ i, i < n → lt (g p n) (g (if q > 0 then kas_rev p (n - (q + 1)) n else p) i) = true := fun i hi => by
    have key : ∀ k, k < n → lt (g p n) (g p k) = true := fun k hk => by
     by_cases c2 : n - (q + 1) ≤ k
     ·exact lt_le O c (Dn.eqs O h c2 hk).1
     ·exact lt_le O c (O.as _ _ (h.d2 k (n - 1) (by omega) (by omega) (by omega)))
    split
    ·rw [g_rev (by omega)]
     split
     ·exact key _ (by omega)
     ·exact key i hi
    ·exact key i hi
   have gn : g (if q > 0 then kas_rev p (n - (q + 1)) n else p) n = g p n := by
    rw [hP'.hi n (Nat.le_refl _) (by omega), hP.hi n (Nat.le_refl _) (by omega)]
   generalize (if q > 0 then kas_rev p (n - (q + 1)) n else p) = p2 at ds hP' low gn
   obtain ⟨p', n', q', e1, e2, e3, e4⟩ := desc_ok f p2 (n + 1) 0 ⟨by omega, fun i j h1 h2 => ds i j h1 (by omega), fun i j h1 h2 h3 => by
    have : j = n := by omega
    rw [this, gn]
    exact low i (by omega), fun i j h1 h2 h3 => by omega⟩ (hP'.succ (by omega)) (by omega)
   exact ⟨p', n', q', e1, e2, e3, by omega⟩
  ·rw [if_neg c]
   have c' : lt (g p n) (g p (n - 1)) = false := by simpa using c
   show ∃ p' n' q', evT lt (if lt (g p (n - 1)) (g p n) = true then KasT.ret (p, n, q) else kas_desc f p (n + 1) (q + 1)) = (p', n', q') ∧ _
   by_cases d : lt (g p (n - 1)) (g p n) = true
   ·rw [if_pos d]
    exact ⟨p, n, q, rfl, h, hP, Nat.le_refl _⟩
   ·rw [if_neg d]
    have d' : lt (g p (n - 1)) (g p n) = false := by simpa using d
    have gn := hP.hi n (Nat.le_refl _) (by omega)
    obtain ⟨p', n', q', e1, e2, e3, e4⟩ := desc_ok f p (n + 1) (q + 1) ⟨by omega, fun i j h1 h2 => h.d1 i j h1 (by omega), fun i j h1 h2 h3 => by
     by_cases ej : j = n
     ·rw [ej]
      exact le_lt O d' (h.d2 i (n - 1) (by omega) (by omega) (by omega))
     ·exact h.d2 i j (by omega) (by omega) (by omega), fun i j h1 h2 h3 => by
     by_cases ej : j = n
     ·subst ej
      have E := Dn.eqs O h (i := i) (by omega) h2
      refine ⟨O.tr _ _ _ E.2 c', O.tr _ _ _ d' E.1, ?_⟩
      rw [gn]
      exact hP.lo i h2
     ·exact h.d3 i j (by omega) h2 (by omega)⟩ (hP.succ (by omega)) (by omega)
    exact ⟨p', n', q', e1, e2, e3, by omega⟩
theorem dsc_rev {p : Array Nat} {n : Nat} (h : Dsc lt p n) (hn : n ≤ p.size) : Asc lt (kas_rev p 0 n) n := fun i j hij hj => by
 rw [g_rev hn, g_rev hn, if_pos ⟨Nat.zero_le _, by omega⟩, if_pos ⟨Nat.zero_le _, hj⟩]
 exact h _ _ (by omega) (by omega)
theorem tail_ok {p : Array Nat} {n : Nat} (h : Dsc lt p n) (hP : Pre N p n) (h1 : 1 ≤ n) : ∃ m p', evT lt (kas_tail3 n N p) = (m, p') ∧ Asc lt p' m ∧ Pre N p' m ∧ 1 ≤ m := by
 unfold kas_tail3
 rw [evT_bind]
 have l := hP.le
 have z := hP.sz
 obtain ⟨m, e1, e2, e3, e4, e5, e6⟩ := asc_ok O (N - n) n (dsc_rev O h (by omega)) (hP.rev (Nat.le_refl _)) h1 (by omega)
 rw [e1]
 exact ⟨m, _, rfl, e4, e5, by omega⟩
theorem descPart_ok {p : Array Nat} {n : Nat} (h : Dsc lt p n) (hP : Pre N p n) (h1 : 1 ≤ n) (hn : n < N) (low : ∀ i, i < n → lt (g p n) (g p i) = true) : ∃ m p', evT lt (kas_descPart n N p) = (m, p') ∧ Asc lt p' m ∧ Pre N p' m ∧ 1 ≤ m := by
 unfold kas_descPart
 rw [evT_bind]
 obtain ⟨p', n', q', e1, e2, e3, e4⟩ := desc_ok O (N - (n + 1)) p (n + 1) 0 ⟨by omega, fun i j a b => h i j a (by omega), fun i j a b c => by
  have : j = n := by omega
  rw [this]
  exact low i (by omega), fun i j a b c => by omega⟩ (hP.succ hn) (by omega)
 rw [e1]
 have z := e3.sz
 have l := e3.le
 have ds := Dn.close O e2 (by omega)
 have hP' : Pre N (if q' > 0 then kas_rev p' (n' - (q' + 1)) n' else p') n' := by
  split
  ·exact e3.rev (Nat.le_refl _)
  ·exact e3
 have := tail_ok O ds hP' (by omega)
 dsimp only
 split
 ·rename_i c
  rw [if_pos c] at this
  exact this
 ·rename_i c
  rw [if_neg c] at this
  exact this
theorem count_ok (h2 : 2 ≤ N) : ∃ m p', evT lt (kas_count N (List.toArray (List.range N))) = (m, p') ∧ Asc lt p' m ∧ Pre N p' m ∧ 1 ≤ m := by
 have gr : ∀ k, k < N → g (List.toArray (List.range N)) k = k := fun k hk => by
  unfold g
  rw [Array.getD_eq_getD_getElem?]
  simp [hk]
 have hP : ∀ n, n ≤ N → Pre N (List.toArray (List.range N)) n := fun n hn => ⟨by simp, .refl _, fun k _ h => gr k h, fun k hk => by rw [gr k (by omega)]; exact hk, hn⟩
 unfold kas_count
 rw [evT_bind]
 obtain ⟨n, e1, e2, e3, e4, e5, e6⟩ := asc_ok O (p := List.toArray (List.range N)) (N - 1) 1 (fun i j a b => by omega) (hP 1 (by omega)) (Nat.le_refl _) (by omega)
 rw [e1]
 by_cases c : (n == N) = true
 ·rw [if_pos c]
  exact ⟨n, _, rfl, e4, e5, e2⟩
 ·rw [if_neg c]
  have hn : n < N := by
   have : n ≠ N := by simpa using c
   omega
  have st := e6 hn
  by_cases c1 : n > 1
  ·rw [if_pos c1]
   show ∃ m p', evT lt (if lt (g _ 0) (g _ (n - 1)) = true then KasT.ret (n, _) else kas_descPart n N (kas_rev _ 0 n)) = (m, p') ∧ _
   by_cases c2 : lt (g (List.toArray (List.range N)) 0) (g (List.toArray (List.range N)) (n - 1)) = true
   ·rw [if_pos c2]
    exact ⟨n, _, rfl, e4, e5, e2⟩
   ·rw [if_neg c2]
    have c2' : lt (g (List.toArray (List.range N)) 0) (g (List.toArray (List.range N)) (n - 1)) = false := by simpa using c2
    have z := (hP n e3).sz
    have irr : ∀ a, lt a a = false := fun a => by
     cases q : lt a a with
     | false => rfl
     | true => rw [O.as a a q] at q; cases q
    have up : ∀ i j, i ≤ j → j < n → lt (g (List.toArray (List.range N)) j) (g (List.toArray (List.range N)) i) = false := fun i j h1 h2 => by
     by_cases e : i = j
     ·rw [e]
      exact irr _
     ·exact sl_le O (e4 i j (by omega) h2)
    have all : ∀ i j, i < n → j < n → lt (g (List.toArray (List.range N)) i) (g (List.toArray (List.range N)) j) = false := fun i j h1 h2 =>
     O.tr _ _ _ (O.tr _ _ _ (up j (n - 1) (by omega) (by omega)) c2') (up 0 i (Nat.zero_le _) h1)
    refine descPart_ok O (fun i j h1 h2 => ?_) ((hP n e3).rev (Nat.le_refl _)) e2 hn fun i hi => ?_
    ·rw [g_rev (by omega), g_rev (by omega), if_pos ⟨Nat.zero_le _, h2⟩, if_pos ⟨Nat.zero_le _, by omega⟩]
     refine .inr ⟨all _ _ (by omega) (by omega), ?_⟩
     rw [gr _ (by omega), gr _ (by omega)]
     omega
    ·rw [g_rev (by omega), g_rev (by omega), if_neg (by omega), if_pos ⟨Nat.zero_le _, hi⟩]
     exact lt_le O st (all _ _ (by omega) (by omega))
  ·rw [if_neg c1]
   have : n = 1 := by omega
   subst this
   exact descPart_ok O (fun i j h1 h2 => by omega) (hP 1 e3) (Nat.le_refl _) hn fun i hi => by
    have : i = 0 := by omega
    rw [this]
    exact st
theorem place_ok {p : Array Nat} {k : Nat} (h : Asc lt p k) : ∀ (f l r : Nat), l ≤ r → r ≤ k → r - l ≤ f → (∀ i, i < l → lt (g p k) (g p i) = false) → (∀ i, r ≤ i → i < k → lt (g p k) (g p i) = true) →
  ∃ x, evT lt (kas_place p k f l r) = x ∧ x ≤ k ∧ (∀ i, i < x → lt (g p k) (g p i) = false) ∧ ∀ i, x ≤ i → i < k → lt (g p k) (g p i) = true
 | 0, l, r, h1, h2, h3, h4, h5 => ⟨l, rfl, by omega, h4, fun i a b => h5 i (by omega) b⟩
 | f + 1, l, r, h1, h2, h3, h4, h5 => by
  have irr : ∀ a, lt a a = false := fun a => by
   cases q : lt a a with
   | false => rfl
   | true => rw [O.as a a q] at q; cases q
  have up : ∀ i j, i ≤ j → j < k → lt (g p j) (g p i) = false := fun i j h1 h2 => by
   by_cases e : i = j
   ·rw [e]
    exact irr _
   ·exact sl_le O (h i j (by omega) h2)
  show ∃ x, evT lt (if l ≥ r then KasT.ret l else .ask (p.getD k 0) (p.getD ((l + r) / 2) 0) fun c => if c = true then kas_place p k f l ((l + r) / 2) else kas_place p k f ((l + r) / 2 + 1) r) = x ∧ _
  by_cases c : l ≥ r
  ·rw [if_pos c]
   exact ⟨l, rfl, by omega, h4, fun i a b => h5 i (by omega) b⟩
  ·rw [if_neg c]
   show ∃ x, evT lt (if lt (g p k) (g p ((l + r) / 2)) = true then kas_place p k f l ((l + r) / 2) else kas_place p k f ((l + r) / 2 + 1) r) = x ∧ _
   by_cases d : lt (g p k) (g p ((l + r) / 2)) = true
   ·rw [if_pos d]
    exact place_ok h f l ((l + r) / 2) (by omega) (by omega) (by omega) h4 fun i a b => lt_le O d (up _ _ a b)
   ·rw [if_neg d]
    have d' : lt (g p k) (g p ((l + r) / 2)) = false := by simpa using d
    exact place_ok h f ((l + r) / 2 + 1) r (by omega) h2 (by omega) (fun i a => O.tr _ _ _ (up i ((l + r) / 2) (by omega) (by omega)) d') h5
theorem bin_ok : ∀ (f : Nat) (p : Array Nat) (k : Nat), Asc lt p k → Pre N p k → k + f = N → ∃ p', evT lt (kas_bin f p k) = p' ∧ Asc lt p' N ∧ Pre N p' N
 | 0, p, k, h, hP, e => by
  have e' : k = N := e
  subst e'
  exact ⟨p, rfl, h, hP⟩
 | f + 1, p, k, h, hP, e => by
  show ∃ p', evT lt ((kas_place p k k 0 k).bind fun l => kas_bin f (bubble p k (k - l)) (k + 1)) = p' ∧ _
  rw [evT_bind]
  obtain ⟨x, e1, xk, q1, q2⟩ := place_ok O h k 0 k (Nat.zero_le _) (Nat.le_refl _) (by omega) (fun i a => absurd a (Nat.not_lt_zero _)) fun i a b => by omega
  rw [e1]
  have z := hP.sz
  have gb : ∀ i, g (bubble p k (k - x)) i = if i = x then g p k else if x < i ∧ i ≤ k then g p (i - 1) else g p i := fun i => by
   have e := getElem?_bubble (xs := p) (src := k) (by omega) (k - x) (by omega) i
   rw [show k - (k - x) = x by omega] at e
   by_cases c1 : i = x
   ·rw [if_pos c1] at e ⊢
    exact g_of e
   ·rw [if_neg c1] at e ⊢
    by_cases c2 : x < i ∧ i ≤ k
    ·rw [if_pos c2] at e ⊢
     exact g_of e
    ·rw [if_neg c2] at e ⊢
     exact g_of e
  have hk := hP.hi k (Nat.le_refl _) (by omega)
  refine bin_ok f (bubble p k (k - x)) (k + 1) (fun i j hij hj => ?_) ⟨(bubble_size _ _ _).trans z, (bubble_perm _ _ _).trans hP.pm, fun i h1 h2 => ?_, fun i hi => ?_, by omega⟩ (by omega)
  ·rw [gb, gb]
   by_cases c1 : i = x
   ·rw [if_pos c1, if_neg (by omega), if_pos (by omega)]
    exact .inl (q2 _ (by omega) (by omega))
   ·rw [if_neg c1]
    by_cases c2 : j = x
    ·rw [if_pos c2, if_neg (by omega)]
     refine .inr ⟨q1 i (by omega), ?_⟩
     rw [hk]
     exact hP.lo i (by omega)
    ·rw [if_neg c2]
     by_cases c3 : x < i ∧ i ≤ k
     ·rw [if_pos c3, if_pos (by omega)]
      exact h _ _ (by omega) (by omega)
     ·rw [if_neg c3]
      by_cases c4 : x < j ∧ j ≤ k
      ·rw [if_pos c4]
       exact h _ _ (by omega) (by omega)
      ·rw [if_neg c4]
       exact h _ _ hij (by omega)
  ·rw [gb, if_neg (by omega), if_neg (by omega)]
   exact hP.hi i (by omega) h2
  ·rw [gb]
   split
   ·omega
   ·split
    ·have := hP.lo (i - 1) (by omega)
     omega
    ·have := hP.lo i (by omega)
     omega
theorem sort_ok (h2 : 2 ≤ N) : ∃ p, evT lt (kas_sort N) = p ∧ p.size = N ∧ p.Perm (List.toArray (List.range N)) ∧ Asc lt p N := by
 unfold kas_sort
 rw [evT_bind]
 obtain ⟨m, p', e, h, hP, m1⟩ := count_ok O h2
 rw [e]
 dsimp only
 have l := hP.le
 by_cases c : m < N
 ·rw [if_pos c, Nat.max_eq_left m1]
  obtain ⟨p2, e2, h3, hP2⟩ := bin_ok O (N - m) p' m h hP (by omega)
  exact ⟨p2, e2, hP2.sz, hP2.pm, h3⟩
 ·rw [if_neg c]
  have : m = N := by omega
  subst this
  exact ⟨p', rfl, hP.sz, hP.pm, h⟩
end
end SR
set_option Elab.async false
set_option linter.all false
set_option maxRecDepth 100000
namespace L2
open PySem PySem.Spec PyProof.Rows PySem.W
noncomputable def cxLam (X : Cx) (A : Around) (qual : Str) (scope : Scope) (cl : List (Str × Addr)) (N : List Str) (L f c : Addr) (s : Shared) (H : Hp) (pn : List (Addr × Obj)) : Cx where
 prog := X.prog
 w := X.w
 K := X.K
 mg := X.mg
 base := X.base
 A := A.deeper (envX qual scope L f (.ref c) cl)
 N := N
 s₀ := s
 H₀ := H
 env := envX qual scope L f (.ref c) cl
 outer := X.stack
 stack := envX qual scope L f (.ref c) cl :: X.stack
 ex := []
 fn := fun _ => false
 calm := X.calm
 pn := pn
 xe := fun _ _ => False
noncomputable def stLam (σ : St) (js : List Nat) (v : V) : St := some v :: frV σ js
section
variable {X : Cx} {pins : List (Addr × Obj)} {σ : St} {H : Hp} {s : Shared} {scope : Scope} {N : List Str} {js : List Nat} {cl : List (Str × Addr)} {A : Around} {qual x : Str}
theorem Inv.lam {h1 : Heap} {tk : Nat} {f c : Addr} {v : V} {u : Value} (I : Inv X pins σ H s) (S : CScope X scope N 1 js) (hx : N[0]? = some x) (hl : scope.names.lookup x = some .local)
  (hcl1 : ∀ x c, cl.lookup x = some c → X.env.cells.lookup x = some c) (hcl2 : ∀ y ∈ scope.names, y.2 = .free → ∃ c, cl.lookup y.1 = some c)
  (hA : A.frames = some X.stack) (hd : A.handled = X.A.handled) (r : RelV v u)
  (hns : h1.Ns s.heap.objs.size (fun y => [(x, u)].reverse.lookup y)) (hk : ∀ b o, s.heap.get? b = some o → h1.get? b = some o) :
  Inv (cxLam X A qual scope cl N s.heap.objs.size f c s H (X.pn ++ pins)) [] (stLam σ js v) H { s with heap := h1, toks := tk } := by
 have hxc : ∀ x c, cl.lookup x = some c → c < s.heap.objs.size := fun x c h => by
  obtain ⟨v, q⟩ := I.cell x c (hcl1 x c h)
  exact q.lt
 have noA : ∀ b : Addr, b ∉ (cxLam X A qual scope cl N s.heap.objs.size f c s H (X.pn ++ pins)).ex := fun b z => absurd (show b ∈ ([] : List Addr) from z) (by simp)
 refine ⟨⟨I.ok.mod, S.kind, rfl, rfl, Nat.le_refl _, fun x y c h1 h2 => I.ok.inj x y c (hcl1 x c h1) (hcl1 y c h2), fun y hy => ?_, fun x c h _ => absurd (show false = true from h) (by decide), fun h => ?_, Around.frames_deeper hA, .inr ⟨rfl, rfl⟩, fun b hb => absurd hb (noA b), I.bs,
  Nat.le_trans I.ok.bsz I.sz, fun b o e => noA b, fun b hb => absurd hb (noA b), I.stack, I.stkFree⟩, rfl, I.bare, Un.kept hk, ⟨_, hns, fun i y w e1 e2 e3 => ?_⟩, fun x c h => ?_, I.hok.fresh (Nat.le_refl _), fun x c h => I.freeC x c (hcl1 x c h), fun p hp => ?_, I.hok.kept hk, ?_⟩
 ·have hy : scope.names.lookup y = some .cell ∨ scope.names.lookup y = some .free := hy
  rcases hy with hy | hy
  ·exact absurd rfl (S.nocell _ (lookup_mem hy))
  ·exact hcl2 _ (lookup_mem hy) rfl
 ·exact hd.trans (I.ok.hd h)
 ·cases i with
  | zero =>
   have e1' : N[0]? = some y := e1
   rw [hx] at e1'
   cases e1'
   cases e2
   exact ⟨u, r, .inl ⟨hl, by simp⟩⟩
  | succ d =>
   have e2' : (frV σ js)[d]? = some (some w) := by simpa [stLam] using e2
   unfold frV at e2'
   rw [List.getElem?_map] at e2'
   cases ej : js[d]? with
   | none => rw [ej] at e2'; cases e2'
   | some j =>
    rw [ej] at e2'
    have ev : (σ[j]?).join = some w := Option.some.inj e2'
    have ev' : σ[j]? = some (some w) := by
     cases q : σ[j]? with
     | none => rw [q] at ev; cases ev
     | some z => rw [q] at ev; rw [show z = some w from ev]
    obtain ⟨x', n1, n2, n3⟩ := S.look d j ej
    have : x' = y := by
     have e1' : N[d + 1]? = some y := e1
     rw [Nat.add_comm 1 d, e1'] at n1
     exact (Option.some.inj n1).symm
    subst this
    obtain ⟨m, hn, hl⟩ := I.loc
    have hkx := S.frees _ (lookup_mem n3) rfl
    have hvis : Vis X.env.scope x' := by
     rcases hkx with q | q
     ·exact .inr (.inl q)
     ·exact .inr (.inr q)
    obtain ⟨u, r, l⟩ := hl j x' w n2 ev' hvis
    refine ⟨u, r, ?_⟩
    obtain ⟨c, hc⟩ := hcl2 _ (lookup_mem n3) rfl
    rcases l with ⟨l1, _⟩ | ⟨l1, c', l2, l3⟩
    ·rcases hkx with q | q
     ·exact absurd (l1.symm.trans q) (by decide)
     ·exact absurd (l1.symm.trans q) (by decide)
    ·have : c' = c := Option.some.inj (l2.symm.trans (hcl1 _ c hc))
     subst this
     obtain ⟨o, ho, hd⟩ := l3
     exact .inr ⟨.inr n3, c', hc, o, hk _ o ho, hd⟩
 ·obtain ⟨v, o, ho, hd⟩ := I.cell x c (hcl1 x c h)
  exact ⟨v, o, hk _ o ho, hd⟩
 ·have hp' : p ∈ X.pn ++ pins := by simpa [cxLam] using hp
  obtain ⟨e, n, ne, nf, d⟩ := I.pin p hp'
  refine ⟨hk _ _ e, n, Nat.ne_of_lt (Heap.lt_size e), fun z => ?_, d⟩
  exact (List.mem_cons.mp (I.stkSub _ z)).elim ne nf
 ·show (stLam σ js v).length = N.length
  unfold stLam frV
  rw [S.len]
  simp
  omega
noncomputable abbrev fLam (name qual : Str) (params : Arguments) (body : Expr) (scope : Scope) (cl : List (Str × Addr)) (pm : Value) (c : Addr) (ct : Value) : Obj := kla_obj name qual params body scope cl pm c ct
theorem lam_call {f c : Addr} {v : V} {u : Value} {name : Str} {params : Arguments} {body : Expr} {pm ct : Value} {te : TE} {Q : VK} (I : Inv X pins σ H s) (S : CScope X scope N 1 js) (hx : N[0]? = some x) (hl : scope.names.lookup x = some .local)
  (hcl1 : ∀ x c, cl.lookup x = some c → X.env.cells.lookup x = some c) (hcl2 : ∀ y ∈ scope.names, y.2 = .free → ∃ c, cl.lookup y.1 = some c)
  (hA : A.frames = some X.stack) (hd : A.handled = X.A.handled) (hroom : A.depth < recursionLimit) (hco : scope.isCoroutine = false) (hgen : scope.isGenerator = false)
  (hbind : ∀ u, bindArgs (kla_fn name qual params body scope cl pm (.ref c) ct) ⟨[u], []⟩ = pure [(x, u)])
  (hf : s.heap.get? f = some (fLam name qual params body scope cl pm c ct)) (hc : s.heap.CodeRec (.ref c) qual) (r : RelV v u)
  (he : ∀ L s H pn, PE (cxLam X A qual scope cl N L f c s H pn) body te) (h : te (stLam σ js v) H Q) :
  wpAny (model X.prog X.w) A (call (.ref f) [u]) (EP X pins σ Q) (fun _ _ => False) s := by
 refine wpAny_call (codeAny_mono (R := fun r s' => match r with | .ok (.ret u) => EP X pins σ Q u s' | _ => False) (kla_callFunE hroom hf rfl hco hgen rfl hc ?_) fun r s' hq => ?_)
 ·rw [hbind u]
  refine wpAny_pure (wpAny_newFunctionEnv S.nocell (by
   intro y hy
   have : y = (x, u) := by simpa using hy
   rw [this]
   exact hl) (fun h₁ hns hsb => ⟨I.nolimit.fresh _ hsb, ?_⟩) S.kind)
  have hk₁ : ∀ b o, s.heap.get? b = some o → h₁.get? b = some o := fun b o e => hsb.extBut b o (Nat.ne_of_lt (Heap.lt_size e)) (Heap.get?_push_of_some _ e)
  have J := Inv.lam (qual := qual) (tk := s.toks + ([(x, u)] : List (Str × Value)).length) (f := f) (c := c) I S hx hl hcl1 hcl2 hA hd r hns hk₁
  show codeAny _ _ (.expr body (envX qual scope s.heap.objs.size f (.ref c) cl)) _ _
  refine kla_codeExpr (wpAny_mono (he _ _ _ _ [] _ _ _ Q J h) (fun v' s' hl => ?_) fun _ _ y => y.elim)
  obtain ⟨w, H', J', rw', q⟩ := hl
  exact I.after ⟨w, H', J'.os, J'.bare, J'.base, J'.hok, rw', q⟩
 ·match r, hq with
  | .ok (.ret u), hq => exact hq
end
end L2
set_option Elab.async false
set_option linter.all false
set_option maxRecDepth 100000
namespace L2
open PySem PySem.Spec PyProof.Rows PySem.W
structure LamB (mg : Str → Option Value) (base : Heap) (c P : Addr) : Prop where
 hd : CodeHd base c P
 bm : base.BuiltinsAt mg P
 ne : mainGlobals ≠ P
 gl : base.Ns mainGlobals mg
noncomputable def tagL (l d : Nat) (q : Str) : Array Value := #[rawInt l, rawInt d, .str q 0]
section
variable {X : Cx} {pins : List (Addr × Obj)} {σ : St} {H : Hp} {s : Shared} {scope : Scope}
theorem Inv.table {h' : Heap} {tk : Nat} {P c : Addr} {l d : Nat} {q : Str} {oc : Obj} {vs : Array Value} {u : Tok} (I : Inv X pins σ H s) (hP : H P = some (.tbl (tagL l d q)))
  (hx : Heap.ExtBut P s.heap h') (hc : s.heap.objs.size ≤ c) (hoc : h'.get? c = some oc) (hd : oc.data = .fields vs) (hv : vs[1]? = some (.str q u))
  (ht : h'.get? P = some (tabObj #[rawInt l, rawInt d, .ref c])) : Inv X pins σ (upd H c (.frz oc (.own 0))) { s with heap := h', toks := tk } := by
 have hcn : H c = none := I.hok.fresh hc
 have neP : ∀ b, H b = none → b ≠ P := fun b e z => by rw [z, hP] at e; cases e
 have nec : ∀ b o, s.heap.get? b = some o → b ≠ c := fun b o e => Nat.ne_of_lt (Nat.lt_of_lt_of_le (Heap.lt_size e) hc)
 have cP : c ≠ P := neP c hcn
 have kp : ∀ b o, s.heap.get? b = some o → b ≠ P → h'.get? b = some o := fun b o e n => hx b o n e
 refine I.step (g' := s.gens) (d' := s.drawn) (ch := []) (fun _ z => absurd z (by simp)) (fun b o _ _ _ e n => kp b o e (neP b n)) (fun b o _ _ _ e n => ⟨o.slots, kp b o e (neP b n)⟩)
  (fun b o _ e n => by rw [upd_ne (nec b o e)]; exact n) (fun b o _ e => ?_) (fun b xs e => by rw [upd_ne (ne_of_none e hcn)]; exact e) (fun b o u e => by rw [upd_ne (ne_of_none e hcn)]; exact e)
  (fun b ps e => ⟨#[], by rw [upd_ne (ne_of_none e hcn), e]; simp⟩) (fun m hm => ?_) (fun b w e => ?_) I.bare
 ·by_cases hb : b = P
  ·exact ⟨_, by rw [hb]; exact ht⟩
  ·exact ⟨o, kp b o e hb⟩
 ·obtain ⟨o, es, ep, ho, r⟩ := hm
  exact ⟨o, es, ep, kp _ o ho (neP _ I.free), r⟩
 ·by_cases hb : b = c
  ·rw [hb, upd_same] at e
   cases e
   rw [hb]
   exact ⟨hoc, oc, hoc⟩
  ·rw [upd_ne hb] at e
   by_cases hbP : b = P
   ·rw [hbP] at e ⊢
    rw [hP] at e
    cases e
    exact ⟨_, ht, .inr ⟨c, oc, rawInt l, rawInt d, q, 0, u, vs, rfl, rfl, by rw [upd_same], hd, hv⟩⟩
   ·refine (I.hok b w e).stay (fun y z hy g => kp y z g ?_) (fun y g => by rw [upd_ne (ne_of_none g hcn)]; exact g) fun y xs g => by rw [upd_ne (ne_of_none g hcn)]; exact g
    rcases hy with rfl | hy
    ·exact hbP
    ·intro z
     rw [z, hP] at hy
     cases hy
theorem lam_make {params : Arguments} {body : Expr} {P c0 : Addr} {pos : Pos} {Q : Value → Shared → Prop} (I : Inv X pins σ H s) (B : LamB X.mg X.base c0 P)
  (hP : H P = some (.tbl (tagL pos.line pos.col (X.env.qual ++ "<lambda>")))) (hcode : X.env.code = .ref c0) (hdef : defaultsOf params X.env = ([], []))
  (hf : ∀ y ∈ scope.names, y.2 = .free → X.env.kindOf y.1 = some .cell ∨ X.env.kindOf y.1 = some .free)
  (h : ∀ cl f c pm ct H1 s1, (∀ x c, cl.lookup x = some c → X.env.cells.lookup x = some c) → (∀ y ∈ scope.names, y.2 = .free → ∃ c, cl.lookup y.1 = some c) →
   Inv X ((f, fLam "<lambda>" (X.env.qual ++ "<lambda>") params body scope cl pm c ct) :: pins) σ H1 s1 → Ext H H1 → (∃ oc vs u, H1 c = some (.frz oc (.own 0)) ∧ oc.data = .fields vs ∧ vs[1]? = some (.str (X.env.qual ++ "<lambda>") u)) →
   Q (.ref f) s1) :
  wpAny (model X.prog X.w) X.A (eval (.Lambda params body scope pos) X.env) Q X.xe s := by
 obtain ⟨cl, ecl, h1, h2⟩ := closureFor_ok (scope := scope) (env := X.env) fun y hy e => I.ok.has y.1 (hf y hy e)
 have hB := B.bm.keeps I.bk
 have hG := B.gl.keeps I.bk
 have hC := B.hd.keeps I.bk
 obtain ⟨qs, et, z⟩ := (show ObjOk X.prog X.w H s.heap P (.tbl _) from I.hok P _ hP)
 -- the pin of the function's object
 have pin : ∀ {H1 : Hp} {h' : Heap} {tk : Nat} {o : Obj}, Inv X pins σ H1 { s with heap := h', toks := tk } → o.isFreed = false → (∀ v, o.data ≠ .cell v) → Inv X ((h'.objs.size, o) :: pins) σ H1 { s with heap := h'.push o, toks := tk } := fun {H1 h' tk o} J hr hd => by
  have J2 : Inv X pins σ H1 { s with heap := h'.push o, toks := tk } := J.kept (t' := tk) fun b u e => Heap.get?_push_of_some _ e
  refine J2.pins_of fun p hp => ?_
  rcases List.mem_cons.mp hp with rfl | hp
  ·exact ⟨Heap.get?_push_size _ hr, J.hok.fresh (Nat.le_refl _), Nat.ne_of_gt J.lt, J.nofs (Nat.le_refl _), hd⟩
  ·exact J2.pin p (List.mem_append_right _ hp)
 refine kla_eval hdef ?_
 rcases z with rfl | ⟨c, oc, l, d, q, t, u, vs, e1, rfl, e3, e4, e5⟩
 ·refine kla_makeFunction (mg := X.mg) ecl I.ok.glob hG hcode hC et trivial rfl B.ne hB fun c' ctv h' tk hx hge hlt hrec htb => ?_
  obtain ⟨c₂, oc, vs, t, e2, hoc, hd, hv⟩ := hrec
  cases e2
  have J := I.table (tk := tk) hP hx hge hoc hd hv (by simpa using htb)
  refine h cl _ c' _ ctv _ _ h1 h2 (pin J rfl fun v z => by cases z) (fun b o e => by rw [upd_ne (ne_of_none e (I.hok.fresh hge))]; exact e) ⟨oc, vs, t, by rw [upd_same], hd, hv⟩
 ·have e1' : tagL pos.line pos.col (X.env.qual ++ "<lambda>") = #[l, d, .str q t] := e1
  obtain ⟨rfl, rfl, rfl, rfl⟩ : l = rawInt pos.line ∧ d = rawInt pos.col ∧ q = X.env.qual ++ "<lambda>" ∧ t = 0 := by
   have := congrArg Array.toList e1'
   simp only [tagL, List.cons.injEq, Value.str.injEq] at this
   exact ⟨this.1.symm, this.2.1.symm, this.2.2.1.1.symm, this.2.2.1.2.symm⟩
  refine kla_makeFunctionHit (mg := X.mg) (cv := .ref c) ecl I.ok.glob hG hcode hC et trivial (by simp [codeAmong, rawInt]) hB fun ctv h' tk hk hsz => ?_
  have J := I.kept (t' := tk) hk
  exact h cl _ c _ ctv _ _ h1 h2 (pin J rfl fun v z => by cases z) (fun b o e => e) ⟨oc, vs, u, e3, e4, e5⟩
end
end L2
set_option Elab.async false
set_option linter.all false
set_option maxRecDepth 100000
namespace SR
open PySem PySem.W PyProof.Rows
noncomputable def AskIn (N : Nat) {α : Type} : KasT α → (α → Prop) → Prop
 | .ret a, R => R a
 | .ask i j k, R => i < N ∧ j < N ∧ ∀ b, AskIn N (k b) R
theorem AskIn.mono {N : Nat} {α : Type} {R R' : α → Prop} (h : ∀ a, R a → R' a) : ∀ {t : KasT α}, AskIn N t R → AskIn N t R'
 | .ret _, q => h _ q
 | .ask _ _ _, q => ⟨q.1, q.2.1, fun b => AskIn.mono h (q.2.2 b)⟩
theorem AskIn.bind {N : Nat} {α β : Type} {f : α → KasT β} {R : β → Prop} : ∀ {t : KasT α}, AskIn N t (fun a => AskIn N (f a) R) → AskIn N (t.bind f) R
 | .ret _, q => q
 | .ask _ _ _, q => ⟨q.1, q.2.1, fun b => AskIn.bind (q.2.2 b)⟩
theorem kasWp_ev {lt : Nat → Nat → Bool} {N : Nat} {cmp : Nat → Nat → (Bool → Shared → Prop) → Shared → Prop} {s : Shared} (hc : ∀ i j C, i < N → j < N → C (lt i j) s → cmp i j C s) {α : Type} {Q : α → Shared → Prop} {R : α → Prop} :
  ∀ (t : KasT α), AskIn N t R → Q (evT lt t) s → t.kasWp cmp Q s
 | .ret _, _, h => h
 | .ask i j k, q, h => hc i j _ q.1 q.2.1 (kasWp_ev hc (k (lt i j)) (q.2.2 _) h)
noncomputable def Bn (N : Nat) (p : Array Nat) : Prop := ∀ i, p.getD i 0 < N
theorem Bn.pos {N : Nat} {p : Array Nat} (h : Bn N p) : 0 < N := Nat.lt_of_le_of_lt (Nat.zero_le _) (h 0)
theorem Bn.of {N : Nat} {p : Array Nat} (hN : 0 < N) (h : ∀ x ∈ p, x < N) : Bn N p := fun i => by
 by_cases hi : i < p.size
 ·have e : p.getD i 0 = p[i] := by simp [Array.getD, hi]
  rw [e]
  exact h _ (Array.getElem_mem hi)
 ·have e : p.getD i 0 = 0 := by simp [Array.getD, hi]
  rw [e]
  exact hN
theorem Bn.mem {N : Nat} {p : Array Nat} (h : Bn N p) : ∀ x ∈ p, x < N := fun x hx => by
 obtain ⟨i, hi, rfl⟩ := Array.mem_iff_getElem.mp hx
 have := h i
 have e : p.getD i 0 = p[i] := by simp [Array.getD, hi]
 rwa [e] at this
theorem Bn.perm {N : Nat} {p q : Array Nat} (h : Bn N p) (e : q.Perm p) : Bn N q := .of h.pos fun x hx => h.mem x (e.mem_iff.mp hx)
theorem Bn.rev {N : Nat} {p : Array Nat} (h : Bn N p) (i j : Nat) : Bn N (kas_rev p i j) := h.perm (mirror_perm _ _ _ _)
section
variable {N : Nat}
theorem ask_asc {p : Array Nat} (h : Bn N p) : ∀ f n : Nat, AskIn N (kas_asc p f n) fun _ => True
 | 0, _ => trivial
 | f + 1, n => ⟨h _, h _, fun b => by
  cases b
  ·exact ask_asc h f (n + 1)
  ·trivial⟩
theorem ask_desc : ∀ (f : Nat) (p : Array Nat) (n q : Nat), Bn N p → AskIn N (kas_desc f p n q) fun r => Bn N r.1
 | 0, p, n, q, h => h
 | f + 1, p, n, q, h => ⟨h _, h _, fun b => by
  cases b
  ·exact ⟨h _, h _, fun d => by
    cases d
    ·exact ask_desc f p (n + 1) (q + 1) h
    ·exact h⟩
  ·show AskIn N (if q > 0 then _ else _) _
   by_cases c : q > 0
   ·rw [if_pos c]
    exact ask_desc f _ _ _ (h.rev _ _)
   ·rw [if_neg c]
    exact ask_desc f _ _ _ h⟩
theorem ask_tail3 {n nrem : Nat} {p : Array Nat} (h : Bn N p) : AskIn N (kas_tail3 n nrem p) fun r => Bn N r.2 :=
 AskIn.bind ((ask_asc (h.rev _ _) _ _).mono fun _ _ => h.rev _ _)
theorem ask_descPart {n nrem : Nat} {p : Array Nat} (h : Bn N p) : AskIn N (kas_descPart n nrem p) fun r => Bn N r.2 :=
 AskIn.bind ((ask_desc _ _ _ _ h).mono fun r hr => by
  by_cases c : r.2.2 > 0
  ·rw [if_pos c]
   exact ask_tail3 (hr.rev _ _)
  ·rw [if_neg c]
   exact ask_tail3 hr)
theorem ask_count {nrem : Nat} {p : Array Nat} (h : Bn N p) : AskIn N (kas_count nrem p) fun r => Bn N r.2 :=
 AskIn.bind ((ask_asc h _ _).mono fun n _ => by
  by_cases c : (n == nrem) = true
  ·rw [if_pos c]
   exact h
  ·rw [if_neg c]
   by_cases c2 : n > 1
   ·rw [if_pos c2]
    exact ⟨h _, h _, fun b => by
     cases b
     ·exact ask_descPart (h.rev _ _)
     ·exact h⟩
   ·rw [if_neg c2]
    exact ask_descPart h)
theorem ask_place {p : Array Nat} (h : Bn N p) (k : Nat) : ∀ f l r : Nat, AskIn N (kas_place p k f l r) fun _ => True
 | 0, _, _ => trivial
 | f + 1, l, r => by
  unfold kas_place
  by_cases c : l ≥ r
  ·rw [if_pos c]
   trivial
  ·rw [if_neg c]
   exact ⟨h _, h _, fun b => by
    cases b
    ·exact ask_place h k f _ _
    ·exact ask_place h k f _ _⟩
theorem ask_bin : ∀ (f : Nat) (p : Array Nat) (k : Nat), Bn N p → AskIn N (kas_bin f p k) fun _ => True
 | 0, _, _, _ => trivial
 | f + 1, p, k, h => AskIn.bind ((ask_place h k _ _ _).mono fun l _ => ask_bin f _ _ (h.perm (bubble_perm _ _ _)))
theorem ask_sort (hN : 0 < N) : AskIn N (kas_sort N) fun _ => True := by
 have h0 : Bn N (List.toArray (List.range N)) := .of hN fun x hx => by simpa using hx
 refine AskIn.bind ((ask_count h0).mono fun r hr => ?_)
 by_cases c : r.1 < N
 ·rw [if_pos c]
  exact ask_bin _ _ _ hr
 ·rw [if_neg c]
  trivial
end
theorem sort_wp {lt : Nat → Nat → Bool} (O : Ord lt) {N : Nat} (h2 : 2 ≤ N) {cmp : Nat → Nat → (Bool → Shared → Prop) → Shared → Prop} {s : Shared} (hc : ∀ i j C, i < N → j < N → C (lt i j) s → cmp i j C s)
  {Q : Array Nat → Shared → Prop} (h : ∀ p : Array Nat, p.toList.Perm (List.range N) → p.toList.Pairwise (sl lt) → Q p s) : (kas_sort N).kasWp cmp Q s := by
 refine kasWp_ev hc (kas_sort N) (ask_sort (by omega)) ?_
 obtain ⟨p, e, sz, pm, as⟩ := sort_ok O h2
 rw [e]
 refine h p ?_ ?_
 ·have := Array.perm_iff_toList_perm.mp pm
  simpa using this
 ·rw [List.pairwise_iff_getElem]
  intro i j hi hj hij
  have hi' : i < p.size := by simpa using hi
  have hj' : j < p.size := by simpa using hj
  have q := as i j hij (by omega)
  have e1 : g p i = p[i] := by simp [g, Array.getD, hi']
  have e2 : g p j = p[j] := by simp [g, Array.getD, hj']
  rw [e1, e2] at q
  simpa using q
end SR
set_option Elab.async false
set_option linter.all false
set_option maxRecDepth 100000
namespace L2
open PySem PySem.Spec PyProof.Rows PySem.W
section
variable {X : Cx} {pins : List (Addr × Obj)} {σ : St} {H : Hp} {s : Shared}
theorem Inv.fewer {pins' : List (Addr × Obj)} (I : Inv X pins σ H s) (h : ∀ p ∈ pins', p ∈ pins) : Inv X pins' σ H s := I.pins_of fun p hp => I.pin p (List.mem_append_right _ (h p hp))
theorem Inv.more {a : Addr} {o : Obj} (I : Inv X pins σ H s) (e : s.heap.get? a = some o) (n : H a = none) (h1 : a ≠ X.env.locals) (h2 : a ∉ X.fs) (h3 : ∀ v, o.data ≠ .cell v) : Inv X ((a, o) :: pins) σ H s :=
 I.pins_of fun p hp => by
  rcases List.mem_cons.mp hp with rfl | hp
  ·exact ⟨e, n, h1, h2, h3⟩
  ·exact I.pin p (List.mem_append_right _ hp)
structure Ours (X : Cx) (pins : List (Addr × Obj)) (H : Hp) (s : Shared) (a : Addr) : Prop where
 n : H a = none
 ge : X.s₀.heap.objs.size ≤ a
 nl : a ≠ X.env.locals
 nc : ∀ x c, X.env.cells.lookup x = some c → c ≠ a
 np : ∀ p ∈ X.pn ++ pins, p.1 ≠ a
 nf : a ∉ X.fs
theorem Inv.fresh_ours (I : Inv X pins σ H s) {a : Addr} (h : s.heap.objs.size ≤ a) : Ours X pins H s a :=
 ⟨I.hok.fresh h, Nat.le_trans I.sz h, Nat.ne_of_gt (Nat.lt_of_lt_of_le I.lt h), fun x c e z => by
  obtain ⟨v, o, ho, _⟩ := I.cell x c e
  rw [z] at ho
  exact absurd (Nat.lt_of_lt_of_le (Heap.lt_size ho) h) (Nat.lt_irrefl _), fun p hp z => by
  obtain ⟨e, _⟩ := I.pin p hp
  rw [z] at e
  exact absurd (Nat.lt_of_lt_of_le (Heap.lt_size e) h) (Nat.lt_irrefl _), I.nofs h⟩
theorem Inv.set_ours {a : Addr} {h' : Heap} {tk : Nat} (I : Inv X pins σ H s) (O : Ours X pins H s a) (k : ∀ b o, b ≠ a → s.heap.get? b = some o → h'.get? b = some o) : Inv X pins σ H { s with heap := h', toks := tk } :=
 I.turned k O.n O.nl (.inr O.ge) O.nc O.np
theorem Inv.take {a : Addr} {o : HO} (I : Inv X pins σ H s) (O : Ours X pins H s a) (new : ObjOk X.prog X.w (upd H a o) s.heap a o) : Inv X pins σ (upd H a o) s :=
 I.track O.n (fun b u e _ => Nat.ne_of_lt (Nat.lt_of_lt_of_le (Heap.lt_size e) O.ge)) (Ne.symm O.nl) O.nc O.np new
end
noncomputable def Gath (X : Cx) (s : Shared) (u : Value) (xs : List V) : Prop := ∀ (A : Around) (E : Value → Shared → Prop) (Q : List Value → Shared → Prop), A.handled = none →
 (∀ us h' tk, (∀ b o, s.heap.get? b = some o → h'.get? b = some o) → Vals xs us → Q us { s with heap := h', toks := tk }) → wpAny (model X.prog X.w) A (collect u) Q E s
section
variable {X : Cx} {pins : List (Addr × Obj)} {σ : St} {H : Hp} {s : Shared}
theorem gath_list {l : Addr} {xs : List V} (I : Inv X pins σ H s) (hl : SqL X.K H l xs) (h64 : xs.length < 64) : Gath X s (.ref l) xs := by
 intro A E Q _ h
 obtain ⟨its, r, pl, hz⟩ := I.list hl
 have hlen := r.length
 refine collect_list pl.isList (h _ _ _ (fun b o e => ?_) r) (by rw [sizeLine_eq]; omega)
 have hlt := Heap.lt_size e
 rw [Heap.get?_update_ne _ _ _ _ (Nat.ne_of_lt hlt)]
 exact Heap.get?_push_of_some _ e
theorem gath_range {r : Addr} {n : Nat} (I : Inv X pins σ H s) (hr : H r = some (.rng 0 (n : Int))) (hn : n < 64) : Gath X s (.ref r) ((List.range n).map fun j : Nat => V.int (j : Int)) := by
 intro A E Q hh h
 obtain ⟨t, u, v, e⟩ := (show ObjOk X.prog X.w H s.heap r (.rng 0 (n : Int)) from I.hok r _ hr)
 have hsz : Builtin.Range.rangeSize 0 (n : Int) 1 = n := by rw [rangeSize_one]; split <;> omega
 unfold collect
 refine wpAny_bind (wpAny_runValue (codeAny_builtin F.entry_proto_collect ?_))
 rw [Around.under_plainId F.plain_proto_collect _]
 show wpAny _ A.in1 (newList [] >>= fun l => again (.builtin "list.__iadd__" ⟨[l, .ref r], []⟩)) _ _ s
 refine wpAny_bind (wpAny_newObj_type ?_)
 refine wpAny_pure ⟨plainId_quiet F.plain_list_iadd _, codeAny_builtin F.entry_list_iadd ?_⟩
 rw [Around.under_plainId F.plain_list_iadd _]
 have hS : (s.heap.push { cls := .type "list", data := .seq ([] : List Value).toArray }).get? s.heap.objs.size = some { cls := .type "list", data := .seq #[] } := Heap.get?_push_size _ rfl
 show wpAny _ A.in1 (Builtin.List.listExtendWith (.ref s.heap.objs.size) (.ref r) (.ref s.heap.objs.size)) _ _ _
 refine wpAny_extend_range (s := { s with heap := s.heap.push { cls := .type "list", data := .seq ([] : List Value).toArray } }) (n := n) (a := 0) (b := (n : Int)) (c := 1) (t := t) (u := u) (v := v) (R := fun r s' => match r with
  | .ok (.ret v) => wpAny (model X.prog X.w) A (match v with
   | .ref a => do
    let o ← load a
    match o.data with
    | .seq xs _ => pure xs.toList
    | _ => unsupported "internal:collect"
   | _ => unsupported "internal:collect") Q E s'
  | .ok _ => False
  | .error e => E e s') hh (Heap.get?_push_of_some _ e) (small_one (by omega) (by omega) (by omega) (by omega)) hsz (by omega) s.heap.objs.size (.ref s.heap.objs.size) 0 hS fun h' tk acc' c' kp hl hit => ?_
 show wpAny (model X.prog X.w) A (do
   let o ← load s.heap.objs.size
   match o.data with
   | .seq xs _ => pure xs.toList
   | _ => unsupported "internal:collect") Q E { s with heap := h', toks := tk }
 refine wpAny_bind (wpAny_load hl (wpAny_pure (h _ _ _ (fun b o e => kp b o (Nat.ne_of_lt (Heap.lt_size e)) (Heap.get?_push_of_some _ e)) ?_)))
 have key : ∀ (k : Nat), k ≤ n → Vals ((List.range k).map fun j : Nat => V.int (j : Int)) (acc'.toList.take k) := by
  intro k
  induction k with
  | zero => intro _; exact .nil
  | succ k ih =>
   intro hk
   have hlt : k < acc'.size := by rw [hit.1]; omega
   obtain ⟨t, et⟩ := hit.2 k acc'[k] (Array.getElem?_eq_getElem hlt)
   rw [List.range_succ, List.map_append, List.take_succ]
   have e3 : acc'.toList[k]? = some acc'[k] := by rw [Array.getElem?_toList, Array.getElem?_eq_getElem hlt]
   rw [e3]
   refine (ih (by omega)).append (.cons ?_ .nil)
   refine ⟨t, ?_⟩
   rw [et]
   congr 1
   omega
 have := key n (Nat.le_refl _)
 rwa [List.take_of_length_le (by rw [Array.length_toList, hit.1]; exact Nat.le_refl _)] at this
end
end L2
set_option Elab.async false
set_option linter.all false
set_option maxRecDepth 100000
set_option maxHeartbeats 4000000
namespace L2
open PySem PySem.Spec PyProof.Rows PySem.W
noncomputable abbrev lstO (us : List Value) (n : Nat) : Obj := seqObj "list" us.toArray n
section
variable {X : Cx} {pins : List (Addr × Obj)} {σ : St} {H : Hp} {s : Shared} {A : Around}
theorem Ours.pin {a : Addr} {o : Obj} {own : List (Addr × Obj)} {H1 : Hp} {s1 : Shared} (O : Ours X pins H s a) (I : Inv X ((a, o) :: pins) σ H1 s1) : Ours X pins H1 s1 a := by
 obtain ⟨e, n, _⟩ := I.pin (a, o) (List.mem_append_right _ List.mem_cons_self)
 exact ⟨n, O.ge, O.nl, O.nc, O.np, O.nf⟩
structure KeyOf (X : Cx) (A : Around) (f : Value) (Rk : V → V → Hp → Prop) (xs : List V) (pins : List (Addr × Obj)) (σ : St) (H : Hp) : Prop where
 mono : ∀ x k H1 H2, Ext H1 H2 → Rk x k H1 → Rk x k H2
 turn : ∀ own s1 H1 x u, x ∈ xs → RelV x u → Ext H H1 → Inv X (own ++ pins) σ H1 s1 → wpAny (model X.prog X.w) A (call f [u]) (EP X (own ++ pins) σ fun k H2 => Ext H1 H2 ∧ Rk x k H2) (fun _ _ => False) s1
structure KeyLt (X : Cx) (A : Around) (Rk : V → V → Hp → Prop) (xs : List V) (lt : Nat → Nat → Bool) (pins : List (Addr × Obj)) (σ : St) (H : Hp) : Prop where
 ord : SR.Ord lt
 ask : ∀ own s1 H1 kvs ks, Ext H H1 → Inv X (own ++ pins) σ H1 s1 → Paired (fun x k => Rk x k H1) xs kvs → Vals kvs ks → 2 ≤ xs.length →
  ∃ κ, (∀ (Q : SortKind → Shared → Prop) E, Q κ s1 → wpAny (model X.prog X.w) A (keyKind' ks.toArray) Q E s1) ∧ ∀ i j C, i < xs.length → j < xs.length → C (lt i j) s1 → kas_ask X.prog X.w A κ ks i j C s1
noncomputable def SortedBy (lt : Nat → Nat → Bool) (n : Nat) (q : List Nat) : Prop := q.Perm (List.range n) ∧ q.Pairwise (SR.sl lt)
noncomputable def atV (xs : List V) (i : Nat) : V := xs.getD i .non
theorem vals_pick {xs : List V} {us : List Value} (r : Vals xs us) : ∀ {q : List Nat}, (∀ i ∈ q, i < xs.length) → Vals (q.map (atV xs)) (q.map fun i => us.getD i Value.none)
 | [], _ => .nil
 | i :: q, h => by
  have hi := h i List.mem_cons_self
  refine .cons ?_ (vals_pick r fun j hj => h j (List.mem_cons_of_mem _ hj))
  obtain ⟨u, hu, ru⟩ := r.get (List.getElem?_eq_getElem hi)
  have e1 : atV xs i = xs[i] := by simp [atV, hi]
  have e2 : us.getD i Value.none = u := by rw [List.getD_eq_getElem?_getD, hu]; rfl
  rw [e1]
  show RelV _ (us.getD i Value.none)
  rw [e2]
  exact ru
theorem paired_snoc {α β : Type} {F : α → β → Prop} : ∀ {as : List α} {bs : List β} {a : α} {b : β}, Paired F as bs → F a b → Paired F (as ++ [a]) (bs ++ [b])
 | _, _, _, _, .nil, h => .cons h .nil
 | _, _, _, _, .cons r t, h => .cons r (paired_snoc t h)
theorem ksk_inv {f : Value} {a : Addr} {n : Nat} {us : List Value} {xs : List V} {Rk : V → V → Hp → Prop} {lt : Nat → Nat → Bool} {P : PySem.Fin → Shared → Prop} {E : Value → Shared → Prop} (I : Inv X pins σ H s) (O : Ours X pins H s a) (ha : s.heap.get? a = some (lstO us n))
  (r : Vals xs us) (h64 : us.length < 64) (Kf : KeyOf X A f Rk xs pins σ H) (Kl : KeyLt X A Rk xs lt pins σ H)
  (h : ∀ q H1 s1 c, SortedBy lt xs.length q → Ext H H1 → Inv X pins σ H1 s1 → Ours X pins H1 s1 a → s1.heap.get? a = some (lstO (q.map fun i => us.getD i Value.none) c) → P (.done (.ret .none)) s1) :
  wpAny (model X.prog X.w) A (ksk_tree a f false) P E s := by
 have hlen := r.length
 have sz64 : ∀ k, k < 64 → k ≤ sizeLine := fun k hk => by rw [sizeLine_eq]; omega
 have s1 := Heap.SameBut.update s.heap a (Obj.mapSeq fun _ => (#[] : Array Value))
 obtain ⟨e1, ho1⟩ : ∃ e1, (s.heap.update a (Obj.mapSeq fun _ => (#[] : Array Value))).get? a = some (seqObj "list" #[] e1) := ⟨_, get?_update_seq ha fun _ => #[]⟩
 have I1 : Inv X pins σ H { s with heap := s.heap.update a (Obj.mapSeq fun _ => (#[] : Array Value)) } := I.set_ours (tk := s.toks) O fun b o hb e => (s1.2 b hb).trans e
 unfold ksk_tree
 refine wpAny_bind (listItems_at ha rfl ?_)
 refine wpAny_bind (listUpdate_at ha rfl ?_ (by rw [List.size_toArray]; exact sz64 _ h64) (Nat.zero_le _))
 refine wpAny_bind (seqEpoch_at ho1 rfl ?_)
 refine wpAny_bind (wpAny_newTuple ?_ (by show us.length ≤ _; exact sz64 _ h64))
 refine wpAny_bind (wpAny_newList ?_ (Nat.zero_le _))
 refine wpAny_holding ?_
 generalize hh1 : s.heap.update a (Obj.mapSeq fun _ => (#[] : Array Value)) = h1 at *
 have I2 : Inv X pins σ H { s with heap := h1.push (seqObj "tuple" us.toArray 0) } := I1.kept (t' := s.toks) fun b o e => Heap.get?_push_of_some _ e
 have I3 : Inv X pins σ H { s with heap := (h1.push (seqObj "tuple" us.toArray 0)).push (seqObj "list" #[] 0) } := I2.kept (t' := s.toks) fun b o e => Heap.get?_push_of_some _ e
 have Ok := I2.fresh_ours (a := (h1.push (seqObj "tuple" us.toArray 0)).objs.size) (Nat.le_refl _)
 have ek0 : ((h1.push (seqObj "tuple" us.toArray 0)).push (seqObj "list" #[] 0)).get? (h1.push (seqObj "tuple" us.toArray 0)).objs.size = some (seqObj "list" #[] 0) := Heap.get?_push_size _ rfl
 have hka : (h1.push (seqObj "tuple" us.toArray 0)).objs.size ≠ a := by
  have l1 := Heap.lt_size ho1
  rw [size_push']
  exact Nat.ne_of_gt (Nat.lt_succ_of_lt l1)
 have ea3 : ((h1.push (seqObj "tuple" us.toArray 0)).push (seqObj "list" #[] 0)).get? a = some (seqObj "list" #[] e1) := Heap.get?_push_of_some _ (Heap.get?_push_of_some _ ho1)
 show wpAny _ A (ksk_rest a f false us.toArray e1 (.ref (h1.push (seqObj "tuple" us.toArray 0)).objs.size)) P E { s with heap := (h1.push (seqObj "tuple" us.toArray 0)).push (seqObj "list" #[] 0) }
 generalize (h1.push (seqObj "tuple" us.toArray 0)).objs.size = kS at *
 generalize hs3 : ({ s with heap := (h1.push (seqObj "tuple" us.toArray 0)).push (seqObj "list" #[] 0) } : Shared) = s3 at *
 have ek3 : s3.heap.get? kS = some (seqObj "list" #[] 0) := by rw [← hs3]; exact ek0
 have ea3' : s3.heap.get? a = some (seqObj "list" #[] e1) := by rw [← hs3]; exact ea3
 have OkH : Ours X pins H s3 kS := ⟨Ok.n, Ok.ge, Ok.nl, Ok.nc, Ok.np, Ok.nf⟩
 have OaH : Ours X pins H s3 a := ⟨O.n, O.ge, O.nl, O.nc, O.np, O.nf⟩
 -- both lists as pins
 have pin2 : ∀ {H1 : Hp} {s1 : Shared} {ks : List Value} {e : Nat}, Inv X pins σ H1 s1 → H1 a = none → H1 kS = none → s1.heap.get? a = some (seqObj "list" #[] e1) → s1.heap.get? kS = some (lstO ks e) → Inv X ([(kS, lstO ks e), (a, seqObj "list" #[] e1)] ++ pins) σ H1 s1 :=
  fun {H1 s1 ks e} J n1 n2 g1 g2 => (J.more g1 n1 O.nl O.nf fun v z => by cases z).more g2 n2 Ok.nl Ok.nf fun v z => by cases z
 unfold ksk_rest
 refine wpAny_bind (wpAny_rule ?_)
 rw [← Array.forIn_toList]
 simp only [List.toList_toArray]
 refine wpAny_bind (ksk_fold (fun i s' => ∃ H1 kvs ks e, Ext H H1 ∧ Inv X ([(kS, lstO ks e), (a, seqObj "list" #[] e1)] ++ pins) σ H1 s' ∧ Paired (fun x k => Rk x k H1) (xs.take i) kvs ∧ Vals kvs ks) us 0 s3
  ⟨H, [], [], 0, fun _ _ z => z, pin2 (ks := []) I3 OaH.n OkH.n ea3' ek3, (by rw [List.take_zero]; exact .nil), .nil⟩ ?step ?done)
 case step =>
  rintro j u s' hu ⟨H1, kvs, ks, e, x1, J, pr, vk⟩
  simp only [Nat.zero_add] at pr ⊢
  have hj : j < us.length := (List.getElem?_eq_some_iff.mp hu).1
  have hjx : j < xs.length := by omega
  have ruv : RelV xs[j] u := by
   obtain ⟨u', hu', ru⟩ := r.get (List.getElem?_eq_getElem hjx)
   rw [hu] at hu'
   cases hu'
   exact ru
  have lk : ks.length = j := by
   have h1 := pr.length
   have h2 := vk.length
   rw [List.length_take] at h1
   omega
  refine wpAny_bind (wpAny_attempt (wpAny_mono (Kf.turn _ s' H1 xs[j] u (List.getElem_mem hjx) ruv x1 J) (fun k s'' he => ?_) fun _ _ hF => hF.elim))
  obtain ⟨kv, H2, J2, rk, x2, rkk⟩ := he
  obtain ⟨gk, nk, _⟩ := J2.pin (kS, lstO ks e) (List.mem_append_right _ (List.mem_append_left _ List.mem_cons_self))
  obtain ⟨ga, na, _⟩ := J2.pin (a, seqObj "list" #[] e1) (List.mem_append_right _ (List.mem_append_left _ (List.mem_cons_of_mem _ List.mem_cons_self)))
  try dsimp only
  obtain ⟨c2, hc2⟩ : ∃ c2, (s''.heap.update kS (Obj.mapSeq (·.push k))).get? kS = some (seqObj "list" (ks.toArray.push k) c2) := ⟨_, get?_update_seq gk (·.push k)⟩
  rw [List.push_toArray] at hc2
  have sk := Heap.SameBut.update s''.heap kS (Obj.mapSeq (·.push k))
  refine wpAny_bind (listUpdate_at gk rfl ?_ (by rw [List.size_toArray]; exact sz64 _ (by omega)) (Nat.le_trans (Nat.le_of_eq (Array.size_push ..)) (by rw [List.size_toArray, sizeLine_eq]; omega)))
  refine wpAny_pure ⟨rfl, H2, kvs ++ [kv], ks ++ [k], c2, fun b o z => x2 b o (x1 b o z), ?_, ?_, vk.append (.cons rk .nil)⟩
  ·have J3 : Inv X pins σ H2 { s'' with heap := s''.heap.update kS (Obj.mapSeq (·.push k)) } :=
    (J2.fewer fun p hp => List.mem_append_right _ hp).set_ours (tk := s''.toks) (a := kS) ⟨nk, Ok.ge, Ok.nl, Ok.nc, Ok.np, Ok.nf⟩ fun b o hb g => (sk.2 b hb).trans g
   exact pin2 J3 na nk ((sk.2 a (Ne.symm hka)).trans ga) hc2
  ·rw [List.take_add_one, List.getElem?_eq_getElem hjx]
   exact paired_snoc (Paired.mapP pr fun x k q => Kf.mono x k _ _ x2 q) rkk
 case done =>
  rintro s' ⟨H1, kvs, ks, e, x1, J, pr, vk⟩
  rw [List.take_of_length_le (by omega)] at pr
  obtain ⟨gk, nk, _⟩ := J.pin (kS, lstO ks e) (List.mem_append_right _ (List.mem_append_left _ List.mem_cons_self))
  obtain ⟨ga, na, _⟩ := J.pin (a, seqObj "list" #[] e1) (List.mem_append_right _ (List.mem_append_left _ (List.mem_cons_of_mem _ List.mem_cons_self)))
  have lk : ks.length = us.length := by
   have h1 := pr.length
   have h2 := vk.length
   omega
  have hzl : (ks.toArray.zip us.toArray).size = us.length := by simp [lk]
  have J0 := J.fewer (pins' := pins) fun p hp => List.mem_append_right _ hp
  -- the end
  have tail : ∀ (st : SortSt) (q : List Nat), SortedBy lt xs.length q → failedOf st = none → (arrOf st).map (·.2) = List.toArray (q.map fun i => us.getD i Value.none) → wpAny (model X.prog X.w) A (ksk_tail a false e1 (.ref kS) st) P E s' := fun st q hq hfl hout => by
   have ql : q.length = us.length := by
    have := hq.1.length_eq
    rw [List.length_range] at this
    omega
   have t1 := Heap.SameBut.update s'.heap kS (Obj.mapSeq fun _ => (#[] : Array Value))
   have ga1 : (s'.heap.update kS (Obj.mapSeq fun _ => (#[] : Array Value))).get? a = some (seqObj "list" #[] e1) := (t1.2 a (Ne.symm hka)).trans ga
   have t2 := Heap.SameBut.update (s'.heap.update kS (Obj.mapSeq fun _ => (#[] : Array Value))) a (Obj.mapSeq fun _ => (arrOf st).map (·.2))
   obtain ⟨c2, hc2⟩ : ∃ c2, ((s'.heap.update kS (Obj.mapSeq fun _ => (#[] : Array Value))).update a (Obj.mapSeq fun _ => (arrOf st).map (·.2))).get? a = some (seqObj "list" ((arrOf st).map (·.2)) c2) := ⟨_, get?_update_seq ga1 fun _ => (arrOf st).map (·.2)⟩
   unfold ksk_tail
   try dsimp only
   refine wpAny_bind (listUpdate_at gk rfl ?_ (by rw [List.size_toArray]; exact sz64 _ (by omega)) (Nat.zero_le _))
   refine wpAny_bind (wpAny_letGo ?_)
   refine wpAny_bind (seqEpoch_at ga1 rfl ?_)
   refine wpAny_bind (listUpdate_at ga1 rfl ?_ (Nat.zero_le _) (by
    show ((arrOf st).map (·.2)).size ≤ _
    rw [hout, List.size_toArray, List.length_map, sizeLine_eq]
    omega))
   rw [hfl]
   simp only [bne_self_eq_false, Bool.false_eq_true, if_false]
   have J1 : Inv X pins σ H1 { s' with heap := s'.heap.update kS (Obj.mapSeq fun _ => (#[] : Array Value)) } := J0.set_ours (tk := s'.toks) (a := kS) ⟨nk, Ok.ge, Ok.nl, Ok.nc, Ok.np, Ok.nf⟩ fun b o hb g => (t1.2 b hb).trans g
   have J2 : Inv X pins σ H1 { s' with heap := (s'.heap.update kS (Obj.mapSeq fun _ => (#[] : Array Value))).update a (Obj.mapSeq fun _ => (arrOf st).map (·.2)) } := J1.set_ours (tk := s'.toks) (a := a) ⟨na, O.ge, O.nl, O.nc, O.np, O.nf⟩ fun b o hb g => (t2.2 b hb).trans g
   refine wpAny_pure (h q H1 _ c2 hq x1 J2 ⟨na, O.ge, O.nl, O.nc, O.np, O.nf⟩ ?_)
   rw [hout] at hc2 ⊢
   exact hc2
  refine wpAny_bind (listItems_at gk rfl ?_)
  unfold ksk_end
  try dsimp only
  simp only [Bool.false_eq_true, if_false]
  by_cases h2 : us.toArray.size < 2
  ·rw [if_pos h2, if_pos h2]
   rw [List.size_toArray] at h2
   refine wpAny_bind (wpAny_pure ?_)
   rw [StateT.run_pure]
   refine wpAny_bind (wpAny_pure ?_)
   try dsimp only
   refine tail _ (List.range xs.length) ⟨List.Perm.refl _, ?_⟩ rfl ?_
   ·rw [List.pairwise_iff_getElem]
    intro i j hi hj hij
    rw [List.length_range] at hi hj
    omega
   ·show ((ks.toArray.zip us.toArray).map (·.2)) = _
    apply Array.toList_inj.mp
    rw [Array.toList_map, ksk_zip]
    rw [List.map_snd_zip (by simp [lk])]
    rw [hlen]
    apply List.ext_getElem
    ·simp
    ·intro i h1 h3
     simp at h1 h3
     simp [h1]
  ·rw [if_neg h2, if_neg h2]
   rw [List.size_toArray] at h2
   obtain ⟨κ, kk, ka⟩ := Kl.ask _ s' H1 kvs ks x1 J pr vk (by omega)
   refine wpAny_bind (kk _ _ ?_)
   refine wpAny_bind (wpAny_mono (kat_run (κ := κ) (vs := us) (ks := ks) (Q := fun st' s2 => s2 = s' ∧ ∃ q, SortedBy lt xs.length q ∧ failedOf st' = none ∧ (arrOf st').map (·.2) = List.toArray (q.map fun i => us.getD i Value.none))
    (G := fun p s2 => s2 = s' ∧ SortedBy lt xs.length p.toList) lk (by omega) h64 (fun p st' s2 a1 a2 a3 a4 => ⟨a4.1, p.toList, a4.2, a3, kat_snds lk a2⟩) ?_) ?_ fun _ _ e => e)
   ·have := SR.sort_wp (N := us.length) (cmp := kas_ask X.prog X.w A κ ks) (s := s') (Q := fun p s2 => s2 = s' ∧ SortedBy lt xs.length p.toList) Kl.ord (by omega) (fun i j C hi hj hC => ka i j C (by omega) (by omega) hC) fun p hp hs => ⟨rfl, by rw [hlen]; exact hp, hs⟩
    exact this
   ·rintro ⟨⟨⟩, st'⟩ s2 ⟨rfl, q, hq, hf, ho⟩
    exact tail st' q hq hf ho
end
end L2
set_option Elab.async false
set_option linter.all false
set_option maxRecDepth 100000
set_option maxHeartbeats 4000000
namespace L2
open PySem PySem.Spec PyProof.Rows PySem.W
theorem lex_as : ∀ a b : List Int, HT.lexLt a b = true → HT.lexLt b a = false
 | [], [], h => by cases h
 | [], _ :: _, _ => rfl
 | _ :: _, [], h => by cases h
 | x :: a, y :: b, h => by
  rw [HT.lexLt_cons] at h ⊢
  by_cases e : x = y
  ·rw [if_pos e] at h
   rw [if_pos e.symm]
   exact lex_as a b h
  ·rw [if_neg e] at h
   rw [if_neg (Ne.symm e)]
   simp only [decide_eq_true_eq, decide_eq_false_iff_not] at h ⊢
   omega
theorem lex_tr : ∀ a b c : List Int, HT.lexLt b a = false → HT.lexLt c b = false → HT.lexLt c a = false
 | [], _, c, _, _ => by cases c <;> rfl
 | _ :: _, [], _, h, _ => by cases h
 | _ :: _, _ :: _, [], _, h => by cases h
 | x :: a, y :: b, z :: c, h1, h2 => by
  rw [HT.lexLt_cons] at h1 h2 ⊢
  by_cases e1 : y = x
  ·rw [if_pos e1] at h1
   by_cases e2 : z = y
   ·rw [if_pos e2] at h2
    rw [if_pos (e2.trans e1)]
    exact lex_tr a b c h1 h2
   ·rw [if_neg e2] at h2
    rw [if_neg (fun q => e2 (q.trans e1.symm))]
    rw [← e1]
    exact h2
  ·rw [if_neg e1] at h1
   by_cases e2 : z = y
   ·rw [if_neg (fun q => e1 (e2.symm.trans q)), e2]
    exact h1
   ·rw [if_neg e2] at h2
    simp only [decide_eq_false_iff_not] at h1 h2
    rw [if_neg (by omega)]
    simp only [decide_eq_false_iff_not]
    omega
noncomputable def ltI (g : V → Int) (xs : List V) (i j : Nat) : Bool := decide (g (atV xs i) < g (atV xs j))
noncomputable def ltT (g : V → List Int) (xs : List V) (i j : Nat) : Bool := HT.lexLt (g (atV xs i)) (g (atV xs j))
theorem ord_T (g : V → List Int) (xs : List V) : SR.Ord (ltT g xs) := ⟨fun a b h => lex_as _ _ h, fun a b c h1 h2 => lex_tr _ _ _ h1 h2⟩
noncomputable def keyT (g : V → List Int) : V → V → Hp → Prop := fun x k H => ∃ t, k = .ref t ∧ H t = some (.tup ((g x).map V.int))
theorem paired_at {α β : Type} {F : α → β → Prop} : ∀ {as : List α} {bs : List β}, Paired F as bs → ∀ {i : Nat} {a : α}, as[i]? = some a → ∃ b, bs[i]? = some b ∧ F a b
 | _, _, .cons r t, 0, a, h => by cases h; exact ⟨_, rfl, r⟩
 | _, _, .cons r t, i + 1, a, h => paired_at t (i := i) (by simpa using h)
theorem atV_get {xs : List V} {i : Nat} (h : i < xs.length) : xs[i]? = some (atV xs i) := by
 rw [List.getElem?_eq_getElem h]
 simp [atV, h]
section
variable {X : Cx} {A : Around} {xs : List V} {pins : List (Addr × Obj)} {σ : St} {H : Hp}
theorem lex_ints {s : Shared} {b : Bool} {C : Bool → Shared → Prop} : ∀ {us vs : List Value} {ns ms : List Int} {i : Nat}, IntsAre us ns → IntsAre vs ms → ns.length = ms.length → C (HT.lexLt ns ms) s →
  KatLex X.prog X.w A b false C (us.zip vs) i s
 | _, _, _, _, _, .nil, .nil, _, h => h
 | _, _, _, _, i, .cons x t hu, .cons y t' hv, hl, h => by
  have hl' := hl
  simp only [List.length_cons, Nat.add_right_cancel_iff] at hl'
  rw [List.zip_cons_cons]
  refine kat_cons (wpAny_eqBool_int ?_)
  rw [HT.lexLt_cons] at h
  by_cases e : x = y
  ·rw [if_pos e] at h
   have : (x == y) = true := by simpa using e
   rw [this]
   exact kat_yes (lex_ints hu hv hl' h)
  ·rw [if_neg e] at h
   have : (x == y) = false := by simpa using e
   rw [this]
   refine kat_no ?_
   by_cases c : (b && i == 0) = true
   ·rw [c]
    exact oneLt_int h
   ·have c' : (b && i == 0) = false := by simpa using c
    rw [c']
    exact kat_one _ _ (lt_int h)
theorem ints_head {f : Value} {r : List Value} : ∀ {ns : List Int}, IntsAre (f :: r) ns → ∃ n t, f = .int n t
 | _, .cons n t _ => ⟨n, t, rfl⟩
theorem keyLt_T (g : V → List Int) (m : Nat) (hg : ∀ x ∈ xs, (g x).length = m + 1) : KeyLt X A (keyT g) xs (ltT g xs) pins σ H := ⟨ord_T g xs, fun own s1 H1 kvs ks x1 J pr vk h2 => by
 have lk : ks.length = xs.length := by
  have h1 := pr.length
  have h2 := vk.length
  omega
 have tup : ∀ {x k : V} {u : Value}, keyT g x k H1 → RelV k u → ∃ t o its n, u = .ref t ∧ s1.heap.get? t = some o ∧ o.cls = .type "tuple" ∧ o.data = .seq its n ∧ IntsAre its.toList (g x) := by
  intro x k u rk ru
  obtain ⟨t, rfl, et⟩ := rk
  cases ru
  obtain ⟨its, r, ht, hz⟩ := J.tuple (SqT.of et)
  obtain ⟨o, e1, e2, n, e3⟩ := ht
  exact ⟨t, o, _, n, rfl, e1, e2, e3, by simpa using intsAre_of r⟩
 have at' : ∀ i, i < xs.length → ∃ t o its n, ks.getD i Value.none = .ref t ∧ s1.heap.get? t = some o ∧ o.cls = .type "tuple" ∧ o.data = .seq its n ∧ IntsAre its.toList (g (atV xs i)) := fun i hi => by
  obtain ⟨k, ek, rk⟩ := paired_at pr (atV_get hi)
  obtain ⟨u, eu, ru⟩ := vk.get ek
  obtain ⟨t, o, its, n, rfl, q⟩ := tup rk ru
  exact ⟨t, o, its, n, by rw [List.getD_eq_getElem?_getD, eu]; rfl, q⟩
 have firsts : ∀ {xs' kvs' : List V} {ks' : List Value}, (∀ x ∈ xs', (g x).length = m + 1) → Paired (fun x k => keyT g x k H1) xs' kvs' → Vals kvs' ks' → ∃ fs, KatTups s1.heap ks' fs ∧ fs.length = xs'.length ∧ ∀ v ∈ fs, Looks (model X.prog X.w) s1.heap (typeOf v) (.type "int") := by
  intro xs' kvs' ks' hg' p
  induction p generalizing ks' with
  | nil => intro v; cases v; exact ⟨[], .nil, rfl, fun v hv => absurd hv (by simp)⟩
  | cons r t ih =>
   intro v
   cases v with
   | cons a b =>
    obtain ⟨fs, k1, k2, k3⟩ := ih (fun x hx => hg' x (List.mem_cons_of_mem _ hx)) b
    obtain ⟨t, o, its, n, rfl, e1, e2, e3, hi⟩ := tup r a
    have hl := hg' _ List.mem_cons_self
    cases hits : its.toList with
    | nil =>
     have := hi.length
     rw [hits] at this
     simp at this
     omega
    | cons f r' =>
     have hf : its[0]? = some f := by
      rw [← Array.getElem?_toList, hits]
      rfl
     rw [hits] at hi
     refine ⟨f :: fs, KatTups.cons e1 e2 e3 hf k1, by simp [k2], fun v hv => ?_⟩
     rcases List.mem_cons.mp hv with rfl | hv
     ·obtain ⟨n, t, rfl⟩ := ints_head hi
      exact Looks.of_pure rfl
     ·exact k3 v hv
 obtain ⟨fs, k1, k2, k3⟩ := firsts hg pr vk
 refine ⟨tuples' (Value.type "int" != Value.type "tuple"), fun Q E h => kat_kind k1 (by omega) k3 (by decide) h, fun i j C hi' hj' hC => ?_⟩
 obtain ⟨t, o, its, n, e0, e1, e2, e3, hi⟩ := at' i hi'
 obtain ⟨t', o', its', n', f0, f1, f2, f3, hi2⟩ := at' j hj'
 have l1 := hg (atV xs i) (List.mem_of_getElem? (atV_get hi'))
 have l2 := hg (atV xs j) (List.mem_of_getElem? (atV_get hj'))
 show wpAny _ _ (keyLt' (tuples' _) (ks.getD i Value.none) (ks.getD j Value.none)) C _ s1
 rw [e0, f0]
 refine kat_lt e1 e3 f1 f3 ?_
 have hs : decide (its.size < its'.size) = false := by
  have q1 := hi.length
  have q2 := hi2.length
  rw [Array.length_toList] at q1 q2
  simp only [decide_eq_false_iff_not]
  omega
 rw [hs]
 exact lex_ints hi hi2 (by omega) hC⟩
end
end L2
set_option Elab.async false
set_option linter.all false
set_option maxRecDepth 100000
set_option maxHeartbeats 4000000
namespace L2
open PySem PySem.Spec PyProof.Rows PySem.W
noncomputable def SrcV (K : PySem.W.Frag) (H : Hp) (a : Addr) (xs : List V) : Prop := SqL K H a xs ∨ ∃ n : Nat, H a = some (.rng 0 (n : Int)) ∧ xs = (List.range n).map fun j : Nat => V.int (j : Int)
noncomputable def tSortKI (K : PySem.W.Frag) (P : Addr) (tag : Array Value) (js : List Nat) (te tk : TE) : TE := fun σ H Q => te σ H fun v H1 => ∃ a xs, ∃ g : V → Int, v = .ref a ∧ SrcV K H1 a xs ∧ xs.length < 64 ∧ H1 P = some (.tbl tag) ∧
 (∀ H2 x, Ext H1 H2 → x ∈ xs → tk (stLam σ js x) H2 fun k H3 => Ext H2 H3 ∧ k = .int (g x)) ∧ ∀ D H2 q, Ext H1 H2 → H1 D = none → SortedBy (ltI g xs) xs.length q → H2 D = some (.lst (q.map (atV xs))) → Q (.ref D) H2
noncomputable def tSortKT (K : PySem.W.Frag) (P : Addr) (tag : Array Value) (js : List Nat) (te tk : TE) : TE := fun σ H Q => te σ H fun v H1 => ∃ a xs, ∃ (g : V → List Int) (m : Nat), v = .ref a ∧ SrcV K H1 a xs ∧ xs.length < 64 ∧ (∀ x ∈ xs, (g x).length = m + 1) ∧ H1 P = some (.tbl tag) ∧
 (∀ H2 x, Ext H1 H2 → x ∈ xs → tk (stLam σ js x) H2 fun k H3 => Ext H2 H3 ∧ ∃ t, k = .ref t ∧ H3 t = some (.tup ((g x).map V.int))) ∧ ∀ D H2 q, Ext H1 H2 → H1 D = none → SortedBy (ltT g xs) xs.length q → H2 D = some (.lst (q.map (atV xs))) → Q (.ref D) H2
section
variable {X : Cx} {K : PySem.W.Frag} {k : Nat} {e body : Expr} {te tk : TE} {p pos lpos kpos : Pos} {scope : Scope} {params : Arguments} {N : List Str} {js : List Nat} {x : Str} {c0 P : Addr} {tag : Array Value}
theorem srcV_gath {pins : List (Addr × Obj)} {σ : St} {H : Hp} {s : Shared} {a : Addr} {xs : List V} (I : Inv X pins σ H s) (h : SrcV X.K H a xs) (h64 : xs.length < 64) : Gath X s (.ref a) xs := by
 rcases h with h | ⟨n, h, rfl⟩
 ·exact gath_list I h h64
 ·exact gath_range I h (by simpa using h64)
theorem sorted_inv {pins : List (Addr × Obj)} {σ : St} {H : Hp} {s : Shared} {f a : Addr} {xs : List V} {Rk : V → V → Hp → Prop} {lt : Nat → Nat → Bool} {Q : Value → Shared → Prop} {E : Value → Shared → Prop} (hc : X.calm = true) (I : Inv X pins σ H s) (hs : SrcV X.K H a xs) (h64 : xs.length < 64)
  (Kf : KeyOf X X.A.in1.in1 (.ref f) Rk xs pins σ H) (Kl : KeyLt X X.A.in1.in1 Rk xs lt pins σ H)
  (h : ∀ D q H1 s1, SortedBy lt xs.length q → Ext H H1 → H D = none → Inv X pins σ (upd H1 D (.lst (q.map (atV xs)))) s1 → Q (.ref D) s1) :
  wpAny (model X.prog X.w) X.A (call (.builtin "sorted") [.ref a] [(Str.ofString "key", .ref f)]) Q E s := by
 refine call_function_entry_kw kind_sorted plain_sorted entry_sorted (ksk_s1 _ _) ?_
 unfold Builtin.«sorted»
 refine wpAny_bind (m := checkCount "sorted" 1 1 _) (wpAny_pure ?_)
 refine wpAny_bind (srcV_gath I hs h64 _ _ _ (I.ok.hd hc) fun us h' tk kp r => ?_)
 have hlen := r.length
 refine wpAny_bind (wpAny_newList ?_ (by rw [sizeLine_eq]; omega))
 have I1 : Inv X pins σ H { s with heap := h', toks := tk } := I.kept kp
 have I2 : Inv X pins σ H { s with heap := h'.push (lstO us 0), toks := tk } := I1.kept (t' := tk) fun b o e => Heap.get?_push_of_some _ e
 have OD := I1.fresh_ours (a := h'.objs.size) (Nat.le_refl _)
 have eD : (h'.push (lstO us 0)).get? h'.objs.size = some (lstO us 0) := Heap.get?_push_size _ rfl
 have OD2 : Ours X pins H { s with heap := h'.push (lstO us 0), toks := tk } h'.objs.size := ⟨OD.n, OD.ge, OD.nl, OD.nc, OD.np, OD.nf⟩
 refine wpAny_bind (wpAny_holding (wpAny_call_entry_kw slot_list_sort ⟨_, eD, rfl⟩ entry_list_sort ?body (ksk_l1 _ _)))
 case body =>
  rw [ksk_t1]
  refine ksk_inv I2 OD2 eD r (by omega) Kf Kl fun q H1 s1 c hq x1 J O ga => ⟨_, rfl, ?_⟩
  refine wpAny_pure ⟨_, rfl, h _ q H1 s1 hq x1 OD.n (J.take O ?_)⟩
  have hb : ∀ i ∈ q, i < xs.length := fun i hi => by
   have := hq.1.mem_iff.mp hi
   simpa using this
  refine ⟨?_, _, c, vals_pick r hb, ga⟩
  rw [List.length_map, hq.1.length_eq, List.length_range, sizeLine_eq]
  omega
theorem lam_key {Rk : V → V → Hp → Prop} {xs : List V} {pins : List (Addr × Obj)} {σ : St} {H1 : Hp} {f c : Addr} {cl : List (Str × Addr)} {pm ct : Value} {qual : Str} (hr : Room (k + 1) X.A) (S : CScope X scope N 1 js) (hx : N[0]? = some x) (hl : scope.names.lookup x = some .local)
  (hco : scope.isCoroutine = false) (hgen : scope.isGenerator = false) (hbind : ∀ u, bindArgs (kla_fn "<lambda>" qual params body scope cl pm (.ref c) ct) ⟨[u], []⟩ = pure [(x, u)])
  (hb : ∀ L s H pn, PE (cxLam X X.A.in1.in1 qual scope cl N L f c s H pn) body tk) (h1 : ∀ x c, cl.lookup x = some c → X.env.cells.lookup x = some c) (h2 : ∀ y ∈ scope.names, y.2 = .free → ∃ c, cl.lookup y.1 = some c)
  (hc : ∃ oc vs u, H1 c = some (.frz oc (.own 0)) ∧ oc.data = .fields vs ∧ vs[1]? = some (.str qual u)) (mono : ∀ x k H1 H2, Ext H1 H2 → Rk x k H1 → Rk x k H2)
  (h : ∀ H2 x, Ext H1 H2 → x ∈ xs → tk (stLam σ js x) H2 fun k H3 => Ext H2 H3 ∧ Rk x k H3) : KeyOf X X.A.in1.in1 (.ref f) Rk xs ((f, fLam "<lambda>" qual params body scope cl pm c ct) :: pins) σ H1 :=
 ⟨mono, fun own s1 H2 v u hv ru x1 J => by
  obtain ⟨oc, vs, t, e1, e2, e3⟩ := hc
  obtain ⟨gf, _⟩ := J.pin (f, fLam "<lambda>" qual params body scope cl pm c ct) (List.mem_append_right _ (List.mem_append_right _ List.mem_cons_self))
  have hoc := (show ObjOk X.prog X.w H2 s1.heap c (.frz oc (.own 0)) from J.hok c _ (x1 c _ e1)).1
  exact lam_call J S hx hl h1 h2 J.ok.frames rfl (by have := hr.dp; show X.A.depth < _; omega) hco hgen hbind gf ⟨c, oc, vs, t, rfl, hoc, e2, e3⟩ ru hb (h H2 v x1 hv)⟩
theorem sortK_tail {Rk : V → V → Hp → Prop} {lt : Nat → Nat → Bool} {pins : List (Addr × Obj)} {σ : St} {H1 : Hp} {s1 : Shared} {a : Addr} {xs : List V} {Q : VK} (hc : X.calm = true) (hr : Room (k + 1) X.A)
  (B : LamB X.mg X.base c0 P) (hcode : X.env.code = .ref c0) (hdef : defaultsOf params X.env = ([], [])) (S : CScope X scope N 1 js) (hx : N[0]? = some x) (hl : scope.names.lookup x = some .local) (hco : scope.isCoroutine = false) (hgen : scope.isGenerator = false)
  (hbind : ∀ cl pm c ct u, bindArgs (kla_fn "<lambda>" (X.env.qual ++ "<lambda>") params body scope cl pm (.ref c) ct) ⟨[u], []⟩ = pure [(x, u)]) (htag : tag = tagL lpos.line lpos.col (X.env.qual ++ "<lambda>"))
  (hb : ∀ cl L f c s H pn, PE (cxLam X X.A.in1.in1 (X.env.qual ++ "<lambda>") scope cl N L f c s H pn) body tk)
  (I1 : Inv X pins σ H1 s1) (hs : SrcV X.K H1 a xs) (h64 : xs.length < 64) (hP : H1 P = some (.tbl tag)) (mono : ∀ x k H1 H2, Ext H1 H2 → Rk x k H1 → Rk x k H2) (kl : ∀ A pins σ H, KeyLt X A Rk xs lt pins σ H)
  (hk : ∀ H2 x, Ext H1 H2 → x ∈ xs → tk (stLam σ js x) H2 fun k H3 => Ext H2 H3 ∧ Rk x k H3) (fin : ∀ D H2 q, Ext H1 H2 → H1 D = none → SortedBy lt xs.length q → H2 D = some (.lst (q.map (atV xs))) → Q (.ref D) H2) :
  wpAny (model X.prog X.w) X.A (evalAll [do let v ← eval (.Lambda params body scope lpos) X.env; standAt pos; pure v]) (fun ks s2 => wpAny (model X.prog X.w) X.A (call (.builtin "sorted") [.ref a] ([Str.ofString "key"].zip ks)) (EP X pins σ Q) X.xe s2) X.xe s1 := by
 refine wpAny_evalAll_cons (wpAny_bind (lam_make I1 B (by rw [hP, htag]) hcode hdef S.frees fun cl f c pm ct H2 s2 h1 h2 I2 x2 hcr => ?_))
 refine wpAny_bind (wpAny_standAt (wpAny_pure (wpAny_evalAll_nil ?_)))
 show wpAny _ _ (call (.builtin "sorted") [.ref a] [(Str.ofString "key", .ref f)]) _ _ s2
 have hs2 : SrcV X.K H2 a xs := by
  rcases hs with hs | ⟨n, hs, e⟩
  ·refine .inl ?_
   rcases hs with (z | ⟨o, z⟩) | z
   ·exact .inl (.inl (x2 _ _ z))
   ·exact .inl (.inr ⟨o, x2 _ _ z⟩)
   ·exact .inr z
  ·exact .inr ⟨n, x2 _ _ hs, e⟩
 refine sorted_inv hc I2 hs2 h64 (lam_key hr S hx hl hco hgen (hbind cl pm c ct) (fun L s H pn => hb cl L f c s H pn) h1 h2 hcr mono fun H3 x x3 hx => hk H3 x (fun b o g => x3 b o (x2 b o g)) hx) (kl _ _ _ _) fun D q H3 s3 hq x3 hD J => ?_
 refine ⟨.ref D, _, J.fewer fun p hp => List.mem_cons_of_mem _ hp, rfl, fin D _ q ?_ ?_ hq (upd_same ..)⟩
 ·intro b o g
  have g2 := x2 b o g
  rw [upd_ne (ne_of_none g2 hD)]
  exact x3 b o g2
 ·cases z : H1 D with
  | none => rfl
  | some o =>
   rw [x2 D o z] at hD
   cases hD
variable (hK : X.K = K) (hc : X.calm = true) (hg : Gl X "sorted") (hm : X.mg "sorted" = none) (hv : bootBuiltins "sorted" = some (.builtin "sorted")) (hr : Room (k + 1) X.A)
  (B : LamB X.mg X.base c0 P) (hcode : X.env.code = .ref c0) (hdef : defaultsOf params X.env = ([], [])) (S : CScope X scope N 1 js) (hx : N[0]? = some x) (hl : scope.names.lookup x = some .local) (hco : scope.isCoroutine = false) (hgen : scope.isGenerator = false)
  (hbind : ∀ cl pm c ct u, bindArgs (kla_fn "<lambda>" (X.env.qual ++ "<lambda>") params body scope cl pm (.ref c) ct) ⟨[u], []⟩ = pure [(x, u)]) (htag : tag = tagL lpos.line lpos.col (X.env.qual ++ "<lambda>"))
  (he : PE X e te) (hb : ∀ cl L f c s H pn, PE (cxLam X X.A.in1.in1 (X.env.qual ++ "<lambda>") scope cl N L f c s H pn) body tk)
  (hst : starEach [e] X.env = [(false, eval e X.env)]) (hkw : keywordEach [⟨some (Str.ofString "key"), .Lambda params body scope lpos, kpos⟩] X.env = [(some (Str.ofString "key"), eval (.Lambda params body scope lpos) X.env)])
include hK hc hg hm hv hr B hcode hdef S hx hl hco hgen hbind htag he hb hst hkw
theorem pe_sortKT : PE X (.Call (.Name "sorted" p) [e] [⟨some (Str.ofString "key"), .Lambda params body scope lpos, kpos⟩] pos) (tSortKT K P tag js te tk) := by
 subst hK
 intro pins s σ H Q I h
 refine wpAny_Call_Name_kw (ld_blt I hg hm hv ?_)
 refine callWith_kw (e := e) (rest := []) ?_ (by rw [hst]; rfl) (by rw [hst]; rfl) (by rw [hkw]; rfl) (by rw [hkw]; rfl)
 rw [hst]
 show wpAny _ _ (spliced ((false, eval e X.env) :: [])) _ _ s
 refine Calls.spliced_cons (thn (he pins s σ H _ I h) fun u s1 z => ?_)
 obtain ⟨v, H1, I1, r1, a, xs, g, m, rfl, hs, h64, hg', hP, hk, fin⟩ := z
 cases r1
 refine Calls.spliced_nil ?_
 rw [hkw]
 exact sortK_tail (Rk := keyT g) hc hr B hcode hdef S hx hl hco hgen hbind htag hb I1 hs h64 hP (fun x k H1 H2 x2 ⟨t, e, q⟩ => ⟨t, e, x2 _ _ q⟩) (fun _ _ _ _ => keyLt_T g m hg') hk fin
end
end L2
set_option Elab.async false
set_option linter.all false
set_option maxRecDepth 100000
set_option maxHeartbeats 4000000
set_option Elab.async false
set_option linter.all false
set_option maxRecDepth 100000
namespace L2
open PySem PySem.Spec PyProof.Rows PySem.W
noncomputable def LamF (K : PySem.W.Frag) (f c : Addr) : Prop := ∃ oc od fd osl, K.lookup f = some ⟨oc, od, .func fd, osl⟩ ∧ fd.code = .ref c
theorem Room.lam {k : Nat} {A : Around} (r : Room (k + 1) A) (env : Env) : Room k (A.in1.in1.deeper env) :=
 ⟨r.hd, by have := r.dp; show A.depth + 1 + 3 * k + 5 < _; omega, by have := r.un; show A.units + 1 + 1 + 3 + 16 * k + 200 < _; omega⟩
section
variable {P : Program} {w : World} {K : PySem.W.Frag} {mg : Str → Option Value} {base : Heap}
theorem okLE {x qual : Str} {st : Stmt} {f c : Addr} {fd : FuncData} {N ps : List Str} {k : Nat} {sp : Sp} (F : Fun K x qual st f fd) (L : LamF K f c) (S : FnScope N ps (defScope st)) (len : ∀ vs H Q E, sp vs H Q E → vs.length = ps.length)
  (hb : ∀ (A : Around) (outer : List Env) (s : Shared) (H : Hp) (vs : List V) (Q : VK) (E : XK), Room k (A.deeper (envOfC qual (defScope st) s.heap.objs.size f (.ref c))) → sp vs H Q E →
   ∃ t, PSs (cxOf (CXE P w) P w K mg base N qual (defScope st) f (.ref c) A outer s H E) (defBody st) t ∧ t { nx := fun _ H' => Q .non H', rt := Q } (start N vs) H) : FnOk P w K mg base (CXE P w) (k + 1) f fd ps sp := by
 obtain ⟨oc, od, kV, doc, pm, an, cdv, ct, osl, e, lk, hcd⟩ := F.ex
 obtain ⟨_, _, _, _, l2, e2⟩ := L
 subst e
 rw [lk] at l2
 cases l2
 have e2' : cdv = .ref c := e2
 subst e2'
 exact fn_of lk hcd S len hb
theorem okLN {x qual : Str} {st : Stmt} {f c : Addr} {fd : FuncData} {N ps : List Str} {k : Nat} {sp : Sp} (F : Fun K x qual st f fd) (L : LamF K f c) (S : FnScope N ps (defScope st)) (len : ∀ vs H Q E, sp vs H Q E → vs.length = ps.length)
  (hb : ∀ (A : Around) (outer : List Env) (s : Shared) (H : Hp) (vs : List V) (Q : VK) (E : XK), Room k (A.deeper (envOfC qual (defScope st) s.heap.objs.size f (.ref c))) → sp vs H Q E →
   ∃ t, PSs (cxOf (CXE P w) P w K mg base N qual (defScope st) f (.ref c) A outer s H E).nox (defBody st) t ∧ t { nx := fun _ H' => Q .non H', rt := Q } (start N vs) H) : FnOk P w K mg base (CXE P w) (k + 1) f fd ps sp :=
 okLE F L S len fun A outer s H vs Q E hr h => by
  obtain ⟨t, h1, h2⟩ := hb A outer s H vs Q E hr h
  exact ⟨t, h1.nox, h2⟩
structure BaseT (mg : Str → Option Value) (base : Heap) (Ts : List (Addr × Array Value)) : Prop where
 bm : ∃ bm o, mg "__builtins__" = some (.ref bm) ∧ bm ≠ builtinsNs ∧ base.get? bm = some o ∧ o.cls = .type "module" ∧ o.dict = some builtinsNs ∧ o.data = .plain
 hid : ∀ z ∈ Ts, base.get? z.1 = none
structure TabK (K : PySem.W.Frag) (x : Str) (f c P : Addr) : Prop where
 fn : PySem.W.nsIn K mainGlobals x = some (some (.ref f))
 lf : LamF K f c
 hd : ∃ o vs file tf flags tg inF text tt, K.lookup c = some o ∧ o.cls = .type "code" ∧ o.data = .fields vs ∧ vs[11]? = some (.ref P) ∧ vs.getD 11 .none = .ref P ∧ vs.getD 18 .none = .str file tf ∧
  vs.getD 7 .none = .int flags tg ∧ vs.getD 9 .none = .bool inF ∧ vs.getD 10 .none = .int text tt
 ne : c ≠ P
 no : K.lookup P = none
theorem lamB_of {Ts : List (Addr × Array Value)} {x : Str} {f c P : Addr} {tag : Array Value} (T : TabK K x f c P) (X : K.In base) (G : base.Ns mainGlobals mg) (B : BaseT mg base Ts) (hm : (P, tag) ∈ Ts) : LamB mg base c P := by
 obtain ⟨o, vs, file, tf, flags, tg, inF, text, tt, e1, e2⟩ := T.hd
 have hP : base.get? P = none := B.hid _ hm
 obtain ⟨bm, ob, b1, b2, b3, b4, b5, b6⟩ := B.bm
 obtain ⟨og, es, ep, g1, g2, _⟩ := id G
 refine ⟨⟨o, vs, file, tf, flags, tg, inF, text, tt, X _ _ e1, e2.1, e2.2.1, e2.2.2.1, e2.2.2.2.1, e2.2.2.2.2.1, e2.2.2.2.2.2.1, e2.2.2.2.2.2.2.1, e2.2.2.2.2.2.2.2, T.ne⟩, ⟨bm, ob, b1, b2, fun z => ?_, fun z => ?_, b3, b4, b5, b6⟩, fun z => ?_, G⟩
 ·rw [z, g1] at b3
  cases b3
  rw [g2] at b6
  cases b6
 ·rw [z, hP] at b3
  cases b3
 ·rw [z, hP] at g1
  cases g1
theorem table_at {q : Program} {loose : List Str} {mean : ExcName → Option Value} {mb : Str → Option Value} {h : Heap} {x : Str} {f c P : Addr} (T : Top q loose mean mg mb h) (X : K.In h) (hq : x ∈ (recsOf q).map (·.name)) (k : TabK K x f c P) : h.TableAt c P #[] := by
 obtain ⟨d, hd, rfl⟩ := List.mem_map.mp hq
 obtain ⟨a, o, fd, c', P', h1, h2, h3, h4, h5, h6⟩ := T.tab d hd
 have e := h1.symm.trans (mg_of X T.g k.fn)
 cases e
 obtain ⟨oc, od, fd', osl, l1, l2⟩ := k.lf
 have e2 := h2.symm.trans (X _ _ l1)
 cases e2
 cases h3
 have e3 := h4.symm.trans l2
 cases e3
 obtain ⟨o, vs, file, tf, flags, tg, inF, text, tt, e1, e4, e5, e6, _⟩ := k.hd
 obtain ⟨⟨o', vs', g1, g2, g3, g4⟩, g5⟩ := h6
 have e7 := g1.symm.trans (X _ _ e1)
 cases e7
 rw [e5] at g3
 cases g3
 rw [e6] at g4
 cases g4
 exact ⟨⟨o, vs, g1, g2, e5, e6⟩, g5⟩
end
noncomputable def HTab (Ts : List (Addr × Array Value)) (H : Hp) : Hp := fun b => match Ts.lookup b with
 | some tag => some (.tbl tag)
 | none => H b
theorem mem_of_lookupT : ∀ {Ts : List (Addr × Array Value)} {b : Addr} {tag : Array Value}, Ts.lookup b = some tag → (b, tag) ∈ Ts
 | [], _, _, h => by cases h
 | (c, u) :: r, b, tag, h => by
  rw [List.lookup_cons] at h
  cases e : (b == c) with
  | true =>
   rw [e] at h
   cases h
   rw [eq_of_beq e]
   exact List.mem_cons_self
  | false =>
   rw [e] at h
   exact List.mem_cons_of_mem _ (mem_of_lookupT h)
theorem law_callT {P : Program} {w : World} {K : PySem.W.Frag} {mg mb : Str → Option Value} {CX : CXT} {k : Nat} {fa a : Addr} {fd : FuncData} {x : Str} {sp : Sp} {s₁ : Shared} {vs : List Value} {ns : List Int} {Ts : List (Addr × Array Value)}
  (KX : K.In s₁.heap) (hns : s₁.heap.Ns mainGlobals mg) (hb : s₁.heap.Ns builtinsNs mb) (hbb : ∀ x : Str, x ≠ "__name__" → mb x = bootBuiltins x) (hlim : s₁.heap.NoLimit) (hg : s₁.gens = #[])
  (ha : s₁.heap.get? a = some { cls := .type "list", data := .seq vs.toArray }) (hi : IntsAre vs ns) (hl : ns.length ≤ sizeLine) (hr : Room k callerA)
  (hT : ∀ z ∈ Ts, (∃ c, s₁.heap.TableAt c z.1 #[]) ∧ K.lookup z.1 = none) (hTs : ∀ z ∈ Ts, Ts.lookup z.1 = some z.2)
  (hbm : ∃ bm o, mg "__builtins__" = some (.ref bm) ∧ bm ≠ builtinsNs ∧ s₁.heap.get? bm = some o ∧ o.cls = .type "module" ∧ o.dict = some builtinsNs ∧ o.data = .plain)
  (F : ∀ base : Heap, K.In base → base.Ns mainGlobals mg → BaseT mg base Ts → FnOk P w K mg base CX k fa fd [x] sp) (hbind : ∀ (s : Shared) (u : Value), BindsTo s fd ⟨[u], []⟩ [(x, u)])
  (hsp : ∀ H : Hp, (∀ z ∈ Ts, H z.1 = some (.tbl z.2)) → SqL K H a (ns.map V.int) → sp [.ref a] H (fun v _ => v = .bl true) fun _ _ _ => False)
  (hCX : ∀ H e s', CX [] H s₁ (fun _ _ _ => False) e s' → False) :
  codeAny (model P w) callerA (.call (.ref fa) ⟨[.ref a], []⟩) (fun r s' => r = .ok (.ret (.bool true)) ∧ OldK s₁.heap s'.heap ∧ s'.os = s₁.os ∧ AllBare s'.gens) s₁ := by
 have rv := vals_ints hi
 have lenV := hi.length
 have aT : Ts.lookup a = none := by
  cases e : Ts.lookup a with
  | none => rfl
  | some tag =>
   obtain ⟨c, z⟩ := (hT _ (mem_of_lookupT e)).1
   have z2 := z.2
   rw [ha] at z2
   cases z2
 have core : ∀ H0 : Hp, SqL K (HTab Ts H0) a (ns.map V.int) → (∀ b u, H0 b = some u → b = a ∧ u = .frz { cls := .type "list", data := .seq vs.toArray } (.lst (ns.map V.int)) ∧ K.lookup a = none) →
   codeAny (model P w) callerA (.call (.ref fa) ⟨[.ref a], []⟩) (fun r s' => r = .ok (.ret (.bool true)) ∧ OldK s₁.heap s'.heap ∧ s'.os = s₁.os ∧ AllBare s'.gens) s₁ := by
  intro H0 hS hA
  have look : ∀ b u, HTab Ts H0 b = some u → (∃ tag c, (b, tag) ∈ Ts ∧ u = .tbl tag ∧ s₁.heap.TableAt c b #[]) ∨ (b = a ∧ u = .frz { cls := .type "list", data := .seq vs.toArray } (.lst (ns.map V.int)) ∧ K.lookup a = none) := fun b u e => by
   unfold HTab at e
   cases q : Ts.lookup b with
   | some tag =>
    rw [q] at e
    cases e
    obtain ⟨c, z⟩ := (hT _ (mem_of_lookupT q)).1
    exact .inl ⟨tag, c, mem_of_lookupT q, rfl, z⟩
   | none =>
    rw [q] at e
    exact .inr (hA b u e)
  have hok : HOk P w (HTab Ts H0) s₁.heap := fun b u e => by
   rcases look b u e with ⟨tag, c, _, rfl, z⟩ | ⟨rfl, rfl, _⟩
   ·exact ⟨#[], z.2, .inl rfl⟩
   ·exact ⟨ha, by rw [List.length_map]; exact hl, vs, _, rv, ha⟩
  have base_of : ∀ {b : Addr} {o : Obj}, s₁.heap.get? b = some o → HTab Ts H0 b = none → (hidT s₁.heap (HTab Ts H0)).get? b = some o := fun e n => hidT_get e n
  have dict_no : ∀ {b : Addr} {o : Obj}, s₁.heap.get? b = some o → o.cls ≠ .none → o.cls ≠ .type "list" → HTab Ts H0 b = none := fun {b o} e d1 d2 => by
   cases q : HTab Ts H0 b with
   | none => rfl
   | some u =>
    rcases look b u q with ⟨tag, c, _, _, z⟩ | ⟨rfl, _⟩
    ·have z2 := z.2
     rw [e] at z2
     cases z2
     exact absurd rfl d1
    ·rw [ha] at e
     cases e
     exact absurd rfl d2
  have noA : ∀ {b : Addr} {o : Obj} {es : Array DictEntry} {ep : Nat}, s₁.heap.get? b = some o → o.data = .dict es ep → HTab Ts H0 b = none := fun {b o es ep} e d => by
   cases q : HTab Ts H0 b with
   | none => rfl
   | some u =>
    rcases look b u q with ⟨tag, c, _, _, z⟩ | ⟨rfl, _⟩
    ·have z2 := z.2
     rw [e] at z2
     cases z2
     cases d
    ·rw [ha] at e
     cases e
     cases d
  have nsK : ∀ {b : Addr} {m : Str → Option Value}, s₁.heap.Ns b m → (hidT s₁.heap (HTab Ts H0)).Ns b m := fun {b m} ⟨o, es, ep, e, d, r⟩ => ⟨o, es, ep, base_of e (noA e d), d, r⟩
  have hKb : K.In (hidT s₁.heap (HTab Ts H0)) := fun b o e => base_of (KX b o e) (by
   cases q : HTab Ts H0 b with
   | none => rfl
   | some u =>
    rcases look b u q with ⟨tag, c, hm, _, z⟩ | ⟨rfl, _, hK⟩
    ·have := (hT _ hm).2
     rw [e] at this
     cases this
    ·rw [hK] at e
     cases e)
  have hM : Mod K mg (hidT s₁.heap (HTab Ts H0)) := ⟨hKb, nsK hns, ⟨mb, nsK hb, hbb⟩, let ⟨mc, h1, h2⟩ := hlim; ⟨mc, nsK h1, h2⟩⟩
  have hB : BaseT mg (hidT s₁.heap (HTab Ts H0)) Ts := by
   obtain ⟨bm, o, b1, b2, b3, b4, b5, b6⟩ := hbm
   refine ⟨⟨bm, o, b1, b2, base_of b3 (dict_no b3 (by rw [b4]; simp) (by rw [b4]; decide)), b4, b5, b6⟩, fun z hz => ?_⟩
   cases q : (hidT s₁.heap (HTab Ts H0)).get? z.1 with
   | none => rfl
   | some o =>
    have n := (of_hidT q).2
    unfold HTab at n
    rw [hTs z hz] at n
    cases n
  have e0 : Env0 P w K mg (hidT s₁.heap (HTab Ts H0)) callerA [] s₁ (HTab Ts H0) := ⟨rfl, hM, fun b o e => of_hidT e, Nat.le_of_eq (hidT_size _ _), trivial, fun b hb => absurd (show b ∈ ([] : List Addr) from hb) (by simp), hok, .of_eq hg⟩
  refine codeAny_mono ((F _ hKb (nsK hns) hB).run callerA [] s₁ (HTab Ts H0) ⟨[.ref a], []⟩ [.ref a] [.ref a] _ _ hr e0 (hbind s₁ (.ref a)) (.cons rfl .nil) (hsp _ (fun z hz => by unfold HTab; rw [hTs z hz]) hS)) fun r s' h => ?_
  match r, h with
  | .error e, h => exact (hCX _ e s' h).elim
  | .ok (.ret u), h =>
   obtain ⟨v, H', os, bare, un, hok', r', q⟩ := h
   have q' : v = .bl true := q
   subst q'
   obtain rfl : u = Value.bool true := r'
   have nof : ∀ b : Addr, b ∉ frs ([] : List Env) := fun b z => absurd (show b ∈ ([] : List Addr) from z) (by simp)
   have tb : ∀ b tag, HTab Ts H0 b = some (.tbl tag) → ∃ qs : Array Value, s'.heap.get? b = some { cls := .none, data := .fields qs } := fun b tag e => by
    obtain ⟨more, e2⟩ := un.tbls b tag e
    obtain ⟨qs, e3, _⟩ := (show ObjOk P w H' s'.heap b (.tbl _) from hok' b _ e2)
    exact ⟨qs, e3⟩
   have fz : ∀ b o u, HTab Ts H0 b = some (.frz o u) → s'.heap.get? b = some o := fun b o u e => (show ObjOk P w H' s'.heap b (.frz o u) from hok' b _ (un.frzs b o u e)).1
   refine ⟨rfl, ⟨fun b o e => ?_, fun b o e => ?_⟩, os, bare⟩
   ·cases q : HTab Ts H0 b with
    | none => exact .inl (un.keep b o e q (nof b) (by simp))
    | some u =>
     rcases look b u q with ⟨tag, c, _, rfl, z⟩ | ⟨rfl, rfl, _⟩
     ·obtain ⟨qs, e2⟩ := tb b tag q
      have z2 := z.2
      rw [e] at z2
      cases z2
      exact .inr (.inl ⟨z.isCodeTable, rfl, #[], qs, rfl, by rw [e2]; simp⟩)
     ·have e2 := fz b _ _ q
      rw [ha] at e
      cases e
      exact .inl e2
   ·cases q : HTab Ts H0 b with
    | none => exact ⟨o, un.keep b o e q (nof b) (by simp)⟩
    | some u =>
     rcases look b u q with ⟨tag, c, _, rfl, z⟩ | ⟨rfl, rfl, _⟩
     ·obtain ⟨qs, e2⟩ := tb b tag q
      exact ⟨_, e2⟩
     ·exact ⟨_, fz b _ _ q⟩
  | .ok .next, h => exact False.elim h
  | .ok .brk, h => exact False.elim h
  | .ok .cont, h => exact False.elim h
 cases hk : K.lookup a with
 | some o =>
  have e := KX a o hk
  rw [ha] at e
  cases e
  refine core (fun _ => none) (.inr ⟨_, vs.toArray, _, hk, rfl, rfl, rfl, by rw [List.size_toArray, lenV]; exact hl, by simpa using rv⟩) (fun b u e => by cases e)
 | none =>
  refine core (fun b => if b = a then some (.frz { cls := .type "list", data := .seq vs.toArray } (.lst (ns.map V.int))) else none) (.inl (.inr ⟨{ cls := .type "list", data := .seq vs.toArray }, ?_⟩)) (fun b u e => ?_)
  ·unfold HTab
   rw [aT]
   exact if_pos rfl
  ·by_cases hb : b = a
   ·have e' := (if_pos hb).symm.trans e
    cases e'
    exact ⟨hb, rfl, hk⟩
   ·have e' := (if_neg hb).symm.trans e
    cases e'
theorem walk_ofT {l : PySem.W.OpenLaw} {n k : Nat} {q : Program} {loose : List Str} {XP : (Str → Option Value) → Heap → Prop} {YP : World → Heap → Prop} {d : DefRec} {K : Params → PySem.W.Frag} {CX : World → CXT} {sp : World → Sp} {x : Str} (Ts : List (Addr × Array Value)) (nm : List Str)
  (hn : l.most = some n) (hn2 : n ≤ sizeLine) (hdf : d.params.defaults = []) (hr : Room k callerA) (hTs : ∀ z ∈ Ts, Ts.lookup z.1 = some z.2) (hq : ∀ y ∈ nm, y ∈ (recsOf q).map (·.name))
  (hY : ∀ (w : World) (h : Heap), YP w h → (K w.params).In h)
  (F : ∀ (w : World) (mg : Str → Option Value) (fa : Addr) (h : Heap), (K w.params).In h → h.Ns mainGlobals mg → mg d.name = some (.ref fa) →
   (∀ z ∈ Ts, ∃ y f c, y ∈ nm ∧ TabK (K w.params) y f c z.1) ∧ ∃ fd : FuncData, (∀ (s : Shared) (u : Value), BindsTo s fd ⟨[u], []⟩ [(x, u)]) ∧
    ∀ base : Heap, (K w.params).In base → base.Ns mainGlobals mg → BaseT mg base Ts → FnOk l.prog w (K w.params) mg base (CX w) k fa fd [x] (sp w))
  (hsp : ∀ (w : World) (H : Hp) (a : Addr) (ns : List Int), ns.length ≤ n → (∀ z ∈ Ts, H z.1 = some (.tbl z.2)) → SqL (K w.params) H a (ns.map V.int) → sp w [.ref a] H (fun v _ => v = .bl true) fun _ _ _ => False)
  (hCX : ∀ (w : World) (H : Hp) (s : Shared) (e : Value) (s' : Shared), CX w [] H s (fun _ _ _ => False) e s' → False) :
  PySem.W.WalkO q loose XP YP l.row.toRowW d [] (fun f vs => PySem.call f vs) := by
 refine Att.attach_call hn hdf fun w s₀ s₁ mg mb fa o pm cd doc a vs ns G Y ho hd hcd hmg hobj hints hlen hg => ?_
 have KX := hY w _ Y
 obtain ⟨hT, fd, hb, hF⟩ := F w mg fa _ KX G.T.g hmg
 obtain ⟨bm, ob, b1, b2, b3⟩ := G.T.bmain
 refine law_callT (Ts := Ts) KX G.T.g G.T.b G.T.builtins G.T.nolimit hg hobj hints (Nat.le_trans hlen hn2) hr (fun z hz => ?_) hTs ⟨bm, ob, b1, b2, b3⟩ hF hb (fun H hO hS => hsp w H a ns hlen hO hS) fun H e s' => hCX w H s₁ e s'
 obtain ⟨y, f, c, hy, tk⟩ := hT z hz
 exact ⟨⟨c, table_at G.T KX (hq y hy) tk⟩, tk.no⟩
end L2
set_option Elab.async false
set_option linter.all false
set_option maxRecDepth 100000
namespace L2
open PySem PySem.Spec PyProof.Rows
section
variable {prog : Program} {w : World} {A : Around} {R : Result → Shared → Prop} {I S l : Addr} {us : List Value} {bt : Nat → Nat → Bool} {h₀ : Heap}
noncomputable def minCmp (prog : Program) (w : World) (A : Around) (us : List Value) (bt : Nat → Nat → Bool) (I S : Addr) (h₀ : Heap) : Prop := ∀ (i j : Nat) (u v : Value) (s : Shared) (Q : Value → Shared → Prop) (E : Value → Shared → Prop), us[i]? = some u → us[j]? = some v →
 (∀ b o, b ≠ I → b ≠ S → h₀.get? b = some o → s.heap.get? b = some o) → Q (.bool (bt i j)) s → wpAny (model prog w) A (richCompare .Lt u v) Q E s
theorem min_turns (hh : A.handled = none) (hlI : l ≠ I) (hSI : S ≠ I) (hlS : l ≠ S) (cmp : minCmp prog w A.in1 us bt I S h₀) : ∀ (r j : Nat) (s : Shared) (u : Value) (c : Nat), us.length - (j + 1) = r → j + 1 ≤ us.length → s.heap.IsListIter I l (j + 1) → s.heap.IsList l us.toArray →
  us[argBest bt j]? = some u → s.heap.get? S = some (lstO [u, u] c) → (∀ b o, b ≠ I → b ≠ S → h₀.get? b = some o → s.heap.get? b = some o) →
  (∀ v h' tk, us[argBest bt (us.length - 1)]? = some v → (∀ b o, b ≠ I → b ≠ S → h₀.get? b = some o → h'.get? b = some o) → R (.ok (.ret v)) { s with heap := h', toks := tk }) →
  codeAny (model prog w) A (.builtin "min.loop" ⟨[.ref I, .none, .ref S], []⟩) R s := by
 have hnm : (toString "min" ++ toString ".loop" : String) = "min.loop" := by decide
 have W := Walks.list (prog := prog) (w := w) (A := A.in1) hh I l hlI us.toArray
 have sz : us.toArray.size = us.length := List.size_toArray ..
 intro r
 induction r with
 | zero =>
  intro j s u c hr hj it li hu hS kp fin
  have ej : j + 1 = us.length := by omega
  refine codeAny_builtin F.entry_min_loop ?_
  rw [Around.under_plainId F.plain_min_loop _]
  show wpAny _ A.in1 (seqItems? (.ref S) >>= _) _ _ s
  refine wpAny_bind (wpAny_seqItems hS rfl (show wpAny _ A.in1 (tryCatch (pyNext (.ref I)) _ >>= _) _ _ s from wpAny_bind (wpAny_tryCatch (W.done s _ _ ⟨by rw [sz, ← ej]; exact it, li⟩ fun h1 t1 k1 => ?_))))
  have hS1 := k1 S _ (by simpa using hSI) hS
  show wpAny _ A.in1 (updateSeq S (fun _ => #[]) >>= _) _ _ _
  refine wpAny_bind (wpAny_updateSeq hS1 rfl (wpAny_bind (wpAny_letGo (wpAny_pure (fin u _ t1 (by rw [← ej]; exact hu) fun b o n1 n2 e => ?_)))))
  exact (Heap.get?_update_other _ _ (Ne.symm n2)).trans (k1 b o (by simpa using n1) (kp b o n1 n2 e))
 | succ r ih =>
  intro j s u c hr hj it li hu hS kp fin
  have lt : j + 1 < us.length := by omega
  refine codeAny_builtin F.entry_min_loop ?_
  rw [Around.under_plainId F.plain_min_loop _]
  show wpAny _ A.in1 (seqItems? (.ref S) >>= _) _ _ s
  refine wpAny_bind (wpAny_seqItems hS rfl (show wpAny _ A.in1 (tryCatch (pyNext (.ref I)) _ >>= _) _ _ s from wpAny_bind (wpAny_tryCatch (W.item (j + 1) s _ _ (by rw [sz]; exact lt) ⟨it, li⟩ fun v h1 t1 hv st1 k1 => ?_))))
  have hv' : us[j + 1]? = some v := by simpa using hv
  have hS1 := k1 S _ (by simpa using hSI) hS
  have kp1 : ∀ b o, b ≠ I → b ≠ S → h₀.get? b = some o → h1.get? b = some o := fun b o n1 n2 e => k1 b o (by simpa using n1) (kp b o n1 n2 e)
  show wpAny _ A.in1 (tryCatch (holding [v, v] (richCompare .Lt v u >>= _)) _ >>= _) _ _ _
  refine wpAny_bind (wpAny_tryCatch (wpAny_holding (wpAny_bind (cmp (j + 1) (argBest bt j) v u _ _ _ hv' hu kp1 (wpAny_bind (wpAny_holding (wpAny_truthy_bool (wpAny_bind (wpAny_letGo (wpAny_pure ?_))))))))))
  cases hb : bt (j + 1) (argBest bt j) with
  | true =>
   simp only [if_true]
   refine wpAny_bind (wpAny_updateSeq hS1 rfl (wpAny_bind (wpAny_letGo ?_)))
   rw [hnm]
   have s1 := Heap.SameBut.update h1 S (Obj.mapSeq fun _ => #[v, v])
   obtain ⟨c2, hc2⟩ : ∃ c2, (h1.update S (Obj.mapSeq fun _ => #[v, v])).get? S = some (seqObj "list" #[v, v] c2) := ⟨_, get?_update_seq hS1 fun _ => #[v, v]⟩
   obtain ⟨oI, gI, rI⟩ := id st1.1
   obtain ⟨ol, gl, rl⟩ := id st1.2
   refine wpAny_pure ⟨plainId_quiet F.plain_min_loop _, ih (j + 1) _ v c2 (by omega) lt ⟨oI, (s1.2 I (Ne.symm hSI)).trans gI, rI⟩ ⟨ol, (s1.2 l hlS).trans gl, rl⟩ (by simp only [argBest, hb, if_true]; exact hv') hc2 (fun b o n1 n2 e => (s1.2 b n2).trans (kp1 b o n1 n2 e)) fun v' h2 t2 => fin v' h2 t2⟩
  | false =>
   simp only [Bool.false_eq_true, if_false]
   refine wpAny_bind (wpAny_letGo ?_)
   rw [hnm]
   exact wpAny_pure ⟨plainId_quiet F.plain_min_loop _, ih (j + 1) _ u c (by omega) lt st1.1 st1.2 (by simp only [argBest, hb, Bool.false_eq_true, if_false]; exact hu) hS1 kp1 fun v' h2 t2 => fin v' h2 t2⟩
theorem min_first (hh : A.handled = none) (hlI : l ≠ I) (hSI : S ≠ I) (hlS : l ≠ S) (cmp : minCmp prog w A.in1 us bt I S h₀) {s : Shared} {c : Nat} (h0 : 0 < us.length) (it : s.heap.IsListIter I l 0) (li : s.heap.IsList l us.toArray)
  (hS : s.heap.get? S = some (lstO [] c)) (kp : ∀ b o, b ≠ I → b ≠ S → h₀.get? b = some o → s.heap.get? b = some o)
  (fin : ∀ v h' tk, us[argBest bt (us.length - 1)]? = some v → (∀ b o, b ≠ I → b ≠ S → h₀.get? b = some o → h'.get? b = some o) → R (.ok (.ret v)) { s with heap := h', toks := tk }) :
  codeAny (model prog w) A (.builtin "min.loop" ⟨[.ref I, .none, .ref S], []⟩) R s := by
 have hnm : (toString "min" ++ toString ".loop" : String) = "min.loop" := by decide
 have W := Walks.list (prog := prog) (w := w) (A := A.in1) hh I l hlI us.toArray
 have sz : us.toArray.size = us.length := List.size_toArray ..
 refine codeAny_builtin F.entry_min_loop ?_
 rw [Around.under_plainId F.plain_min_loop _]
 show wpAny _ A.in1 (seqItems? (.ref S) >>= _) _ _ s
 refine wpAny_bind (wpAny_seqItems hS rfl (show wpAny _ A.in1 (tryCatch (pyNext (.ref I)) _ >>= _) _ _ s from wpAny_bind (wpAny_tryCatch (W.item 0 s _ _ (by rw [sz]; exact h0) ⟨it, li⟩ fun v h1 t1 hv st1 k1 => ?_))))
 have hv' : us[0]? = some v := by simpa using hv
 have hS1 := k1 S _ (by simpa using hSI) hS
 have kp1 : ∀ b o, b ≠ I → b ≠ S → h₀.get? b = some o → h1.get? b = some o := fun b o n1 n2 e => k1 b o (by simpa using n1) (kp b o n1 n2 e)
 show wpAny _ A.in1 (updateSeq S (fun _ => #[v, v]) >>= _) _ _ _
 refine wpAny_bind (wpAny_updateSeq hS1 rfl ?_)
 rw [hnm]
 have s1 := Heap.SameBut.update h1 S (Obj.mapSeq fun _ => #[v, v])
 obtain ⟨c2, hc2⟩ : ∃ c2, (h1.update S (Obj.mapSeq fun _ => #[v, v])).get? S = some (seqObj "list" #[v, v] c2) := ⟨_, get?_update_seq hS1 fun _ => #[v, v]⟩
 obtain ⟨oI, gI, rI⟩ := id st1.1
 obtain ⟨ol, gl, rl⟩ := id st1.2
 exact wpAny_pure ⟨plainId_quiet F.plain_min_loop _, min_turns hh hlI hSI hlS cmp _ 0 _ v c2 rfl h0 ⟨oI, (s1.2 I (Ne.symm hSI)).trans gI, rI⟩ ⟨ol, (s1.2 l hlS).trans gl, rl⟩ hv' hc2 (fun b o n1 n2 e => (s1.2 b n2).trans (kp1 b o n1 n2 e)) fun v' h2 t2 => fin v' h2 t2⟩
theorem call_minH {s : Shared} {Q : Value → Shared → Prop} {E : Value → Shared → Prop} (hh : A.handled = none) (li : s.heap.IsList l us.toArray) (h0 : 0 < us.length)
  (cmp : minCmp prog w A.in1 us bt s.heap.objs.size (s.heap.objs.size + 1) s.heap)
  (h : ∀ v h' tk, us[argBest bt (us.length - 1)]? = some v → (∀ b o, s.heap.get? b = some o → h'.get? b = some o) → Q v { s with heap := h', toks := tk }) : wpAny (model prog w) A (call (.builtin "min") [.ref l]) Q E s := by
 have hnm : (toString "min" ++ toString ".loop" : String) = "min.loop" := by decide
 refine call_function_tree F.kind_min F.plain_min F.entry_min (F.args_min1 _) ?_
 show wpAny _ A.in1 (Builtin.Builtins.bindParams "min" ["key", "default"] 0 ⟨[], []⟩ >>= _) _ _ s
 refine wpAny_bind (wpAny_of_eq (show Builtin.Builtins.bindParams "min" ["key", "default"] 0 ⟨[], []⟩ = pure [none, none] from rfl) (wpAny_bind (wpAny_pure (wpAny_bind (wpAny_pyIter_list li (wpAny_bind (wpAny_newObj_type ?_)))))))
 rw [hnm]
 obtain ⟨ol, gl, rl⟩ := id li
 have ll := Heap.lt_size gl
 have sz : (s.heap.push { cls := .type "list_iterator", data := .fields #[.ref l, .int 0 0] }).objs.size = s.heap.objs.size + 1 := Heap.size_push ..
 rw [sz]
 have gI : (s.heap.push { cls := .type "list_iterator", data := .fields #[.ref l, .int 0 0] }).get? s.heap.objs.size = some { cls := .type "list_iterator", data := .fields #[.ref l, .int 0 0] } := Heap.get?_push_size _ rfl
 have gS := Heap.get?_push_size (s.heap.push { cls := .type "list_iterator", data := .fields #[.ref l, .int 0 0] }) (o := lstO [] 0) rfl
 rw [sz] at gS
 have kp : ∀ b o, s.heap.get? b = some o → ((s.heap.push { cls := .type "list_iterator", data := .fields #[.ref l, .int 0 0] }).push (lstO [] 0)).get? b = some o := fun b o e => Heap.get?_push_of_some _ (Heap.get?_push_of_some _ e)
 refine wpAny_pure ⟨plainId_quiet F.plain_min_loop _, min_first (I := s.heap.objs.size) (S := s.heap.objs.size + 1) (h₀ := s.heap) hh (Nat.ne_of_lt ll) (Nat.succ_ne_self _) (Nat.ne_of_lt (Nat.lt_succ_of_lt ll)) cmp h0 ⟨_, Heap.get?_push_of_some _ gI, rfl, rfl⟩ ⟨ol, kp _ _ gl, rl⟩ gS (fun b o _ _ e => kp b o e) fun v h' tk hv hk => ?_⟩
 exact h v h' tk hv fun b o e => hk b o (Nat.ne_of_lt (Heap.lt_size e)) (Nat.ne_of_lt (Nat.lt_succ_of_lt (Heap.lt_size e))) e
end
section
variable {prog : Program} {w : World} {A : Around} {R : Result → Shared → Prop} {I S l : Addr} {us : List Value} {bt : Nat → Nat → Bool} {h₀ : Heap}
noncomputable def maxCmp (prog : Program) (w : World) (A : Around) (us : List Value) (bt : Nat → Nat → Bool) (I S : Addr) (h₀ : Heap) : Prop := ∀ (i j : Nat) (u v : Value) (s : Shared) (Q : Value → Shared → Prop) (E : Value → Shared → Prop), us[i]? = some u → us[j]? = some v →
 (∀ b o, b ≠ I → b ≠ S → h₀.get? b = some o → s.heap.get? b = some o) → Q (.bool (bt i j)) s → wpAny (model prog w) A (richCompare .Gt u v) Q E s
theorem max_turns (hh : A.handled = none) (hlI : l ≠ I) (hSI : S ≠ I) (hlS : l ≠ S) (cmp : maxCmp prog w A.in1 us bt I S h₀) : ∀ (r j : Nat) (s : Shared) (u : Value) (c : Nat), us.length - (j + 1) = r → j + 1 ≤ us.length → s.heap.IsListIter I l (j + 1) → s.heap.IsList l us.toArray →
  us[argBest bt j]? = some u → s.heap.get? S = some (lstO [u, u] c) → (∀ b o, b ≠ I → b ≠ S → h₀.get? b = some o → s.heap.get? b = some o) →
  (∀ v h' tk, us[argBest bt (us.length - 1)]? = some v → (∀ b o, b ≠ I → b ≠ S → h₀.get? b = some o → h'.get? b = some o) → R (.ok (.ret v)) { s with heap := h', toks := tk }) →
  codeAny (model prog w) A (.builtin "max.loop" ⟨[.ref I, .none, .ref S], []⟩) R s := by
 have hnm : (toString "max" ++ toString ".loop" : String) = "max.loop" := by decide
 have W := Walks.list (prog := prog) (w := w) (A := A.in1) hh I l hlI us.toArray
 have sz : us.toArray.size = us.length := List.size_toArray ..
 intro r
 induction r with
 | zero =>
  intro j s u c hr hj it li hu hS kp fin
  have ej : j + 1 = us.length := by omega
  refine codeAny_builtin F.entry_max_loop ?_
  rw [Around.under_plainId F.plain_max_loop _]
  show wpAny _ A.in1 (seqItems? (.ref S) >>= _) _ _ s
  refine wpAny_bind (wpAny_seqItems hS rfl (show wpAny _ A.in1 (tryCatch (pyNext (.ref I)) _ >>= _) _ _ s from wpAny_bind (wpAny_tryCatch (W.done s _ _ ⟨by rw [sz, ← ej]; exact it, li⟩ fun h1 t1 k1 => ?_))))
  have hS1 := k1 S _ (by simpa using hSI) hS
  show wpAny _ A.in1 (updateSeq S (fun _ => #[]) >>= _) _ _ _
  refine wpAny_bind (wpAny_updateSeq hS1 rfl (wpAny_bind (wpAny_letGo (wpAny_pure (fin u _ t1 (by rw [← ej]; exact hu) fun b o n1 n2 e => ?_)))))
  exact (Heap.get?_update_other _ _ (Ne.symm n2)).trans (k1 b o (by simpa using n1) (kp b o n1 n2 e))
 | succ r ih =>
  intro j s u c hr hj it li hu hS kp fin
  have lt : j + 1 < us.length := by omega
  refine codeAny_builtin F.entry_max_loop ?_
  rw [Around.under_plainId F.plain_max_loop _]
  show wpAny _ A.in1 (seqItems? (.ref S) >>= _) _ _ s
  refine wpAny_bind (wpAny_seqItems hS rfl (show wpAny _ A.in1 (tryCatch (pyNext (.ref I)) _ >>= _) _ _ s from wpAny_bind (wpAny_tryCatch (W.item (j + 1) s _ _ (by rw [sz]; exact lt) ⟨it, li⟩ fun v h1 t1 hv st1 k1 => ?_))))
  have hv' : us[j + 1]? = some v := by simpa using hv
  have hS1 := k1 S _ (by simpa using hSI) hS
  have kp1 : ∀ b o, b ≠ I → b ≠ S → h₀.get? b = some o → h1.get? b = some o := fun b o n1 n2 e => k1 b o (by simpa using n1) (kp b o n1 n2 e)
  show wpAny _ A.in1 (tryCatch (holding [v, v] (richCompare .Gt v u >>= _)) _ >>= _) _ _ _
  refine wpAny_bind (wpAny_tryCatch (wpAny_holding (wpAny_bind (cmp (j + 1) (argBest bt j) v u _ _ _ hv' hu kp1 (wpAny_bind (wpAny_holding (wpAny_truthy_bool (wpAny_bind (wpAny_letGo (wpAny_pure ?_))))))))))
  cases hb : bt (j + 1) (argBest bt j) with
  | true =>
   simp only [if_true]
   refine wpAny_bind (wpAny_updateSeq hS1 rfl (wpAny_bind (wpAny_letGo ?_)))
   rw [hnm]
   have s1 := Heap.SameBut.update h1 S (Obj.mapSeq fun _ => #[v, v])
   obtain ⟨c2, hc2⟩ : ∃ c2, (h1.update S (Obj.mapSeq fun _ => #[v, v])).get? S = some (seqObj "list" #[v, v] c2) := ⟨_, get?_update_seq hS1 fun _ => #[v, v]⟩
   obtain ⟨oI, gI, rI⟩ := id st1.1
   obtain ⟨ol, gl, rl⟩ := id st1.2
   refine wpAny_pure ⟨plainId_quiet F.plain_max_loop _, ih (j + 1) _ v c2 (by omega) lt ⟨oI, (s1.2 I (Ne.symm hSI)).trans gI, rI⟩ ⟨ol, (s1.2 l hlS).trans gl, rl⟩ (by simp only [argBest, hb, if_true]; exact hv') hc2 (fun b o n1 n2 e => (s1.2 b n2).trans (kp1 b o n1 n2 e)) fun v' h2 t2 => fin v' h2 t2⟩
  | false =>
   simp only [Bool.false_eq_true, if_false]
   refine wpAny_bind (wpAny_letGo ?_)
   rw [hnm]
   exact wpAny_pure ⟨plainId_quiet F.plain_max_loop _, ih (j + 1) _ u c (by omega) lt st1.1 st1.2 (by simp only [argBest, hb, Bool.false_eq_true, if_false]; exact hu) hS1 kp1 fun v' h2 t2 => fin v' h2 t2⟩
theorem max_first (hh : A.handled = none) (hlI : l ≠ I) (hSI : S ≠ I) (hlS : l ≠ S) (cmp : maxCmp prog w A.in1 us bt I S h₀) {s : Shared} {c : Nat} (h0 : 0 < us.length) (it : s.heap.IsListIter I l 0) (li : s.heap.IsList l us.toArray)
  (hS : s.heap.get? S = some (lstO [] c)) (kp : ∀ b o, b ≠ I → b ≠ S → h₀.get? b = some o → s.heap.get? b = some o)
  (fin : ∀ v h' tk, us[argBest bt (us.length - 1)]? = some v → (∀ b o, b ≠ I → b ≠ S → h₀.get? b = some o → h'.get? b = some o) → R (.ok (.ret v)) { s with heap := h', toks := tk }) :
  codeAny (model prog w) A (.builtin "max.loop" ⟨[.ref I, .none, .ref S], []⟩) R s := by
 have hnm : (toString "max" ++ toString ".loop" : String) = "max.loop" := by decide
 have W := Walks.list (prog := prog) (w := w) (A := A.in1) hh I l hlI us.toArray
 have sz : us.toArray.size = us.length := List.size_toArray ..
 refine codeAny_builtin F.entry_max_loop ?_
 rw [Around.under_plainId F.plain_max_loop _]
 show wpAny _ A.in1 (seqItems? (.ref S) >>= _) _ _ s
 refine wpAny_bind (wpAny_seqItems hS rfl (show wpAny _ A.in1 (tryCatch (pyNext (.ref I)) _ >>= _) _ _ s from wpAny_bind (wpAny_tryCatch (W.item 0 s _ _ (by rw [sz]; exact h0) ⟨it, li⟩ fun v h1 t1 hv st1 k1 => ?_))))
 have hv' : us[0]? = some v := by simpa using hv
 have hS1 := k1 S _ (by simpa using hSI) hS
 have kp1 : ∀ b o, b ≠ I → b ≠ S → h₀.get? b = some o → h1.get? b = some o := fun b o n1 n2 e => k1 b o (by simpa using n1) (kp b o n1 n2 e)
 show wpAny _ A.in1 (updateSeq S (fun _ => #[v, v]) >>= _) _ _ _
 refine wpAny_bind (wpAny_updateSeq hS1 rfl ?_)
 rw [hnm]
 have s1 := Heap.SameBut.update h1 S (Obj.mapSeq fun _ => #[v, v])
 obtain ⟨c2, hc2⟩ : ∃ c2, (h1.update S (Obj.mapSeq fun _ => #[v, v])).get? S = some (seqObj "list" #[v, v] c2) := ⟨_, get?_update_seq hS1 fun _ => #[v, v]⟩
 obtain ⟨oI, gI, rI⟩ := id st1.1
 obtain ⟨ol, gl, rl⟩ := id st1.2
 exact wpAny_pure ⟨plainId_quiet F.plain_max_loop _, max_turns hh hlI hSI hlS cmp _ 0 _ v c2 rfl h0 ⟨oI, (s1.2 I (Ne.symm hSI)).trans gI, rI⟩ ⟨ol, (s1.2 l hlS).trans gl, rl⟩ hv' hc2 (fun b o n1 n2 e => (s1.2 b n2).trans (kp1 b o n1 n2 e)) fun v' h2 t2 => fin v' h2 t2⟩
theorem call_maxH {s : Shared} {Q : Value → Shared → Prop} {E : Value → Shared → Prop} (hh : A.handled = none) (li : s.heap.IsList l us.toArray) (h0 : 0 < us.length)
  (cmp : maxCmp prog w A.in1 us bt s.heap.objs.size (s.heap.objs.size + 1) s.heap)
  (h : ∀ v h' tk, us[argBest bt (us.length - 1)]? = some v → (∀ b o, s.heap.get? b = some o → h'.get? b = some o) → Q v { s with heap := h', toks := tk }) : wpAny (model prog w) A (call (.builtin "max") [.ref l]) Q E s := by
 have hnm : (toString "max" ++ toString ".loop" : String) = "max.loop" := by decide
 refine call_function_tree F.kind_max F.plain_max F.entry_max (F.args_max1 _) ?_
 show wpAny _ A.in1 (Builtin.Builtins.bindParams "max" ["key", "default"] 0 ⟨[], []⟩ >>= _) _ _ s
 refine wpAny_bind (wpAny_of_eq (show Builtin.Builtins.bindParams "max" ["key", "default"] 0 ⟨[], []⟩ = pure [none, none] from rfl) (wpAny_bind (wpAny_pure (wpAny_bind (wpAny_pyIter_list li (wpAny_bind (wpAny_newObj_type ?_)))))))
 rw [hnm]
 obtain ⟨ol, gl, rl⟩ := id li
 have ll := Heap.lt_size gl
 have sz : (s.heap.push { cls := .type "list_iterator", data := .fields #[.ref l, .int 0 0] }).objs.size = s.heap.objs.size + 1 := Heap.size_push ..
 rw [sz]
 have gI : (s.heap.push { cls := .type "list_iterator", data := .fields #[.ref l, .int 0 0] }).get? s.heap.objs.size = some { cls := .type "list_iterator", data := .fields #[.ref l, .int 0 0] } := Heap.get?_push_size _ rfl
 have gS := Heap.get?_push_size (s.heap.push { cls := .type "list_iterator", data := .fields #[.ref l, .int 0 0] }) (o := lstO [] 0) rfl
 rw [sz] at gS
 have kp : ∀ b o, s.heap.get? b = some o → ((s.heap.push { cls := .type "list_iterator", data := .fields #[.ref l, .int 0 0] }).push (lstO [] 0)).get? b = some o := fun b o e => Heap.get?_push_of_some _ (Heap.get?_push_of_some _ e)
 refine wpAny_pure ⟨plainId_quiet F.plain_max_loop _, max_first (I := s.heap.objs.size) (S := s.heap.objs.size + 1) (h₀ := s.heap) hh (Nat.ne_of_lt ll) (Nat.succ_ne_self _) (Nat.ne_of_lt (Nat.lt_succ_of_lt ll)) cmp h0 ⟨_, Heap.get?_push_of_some _ gI, rfl, rfl⟩ ⟨ol, kp _ _ gl, rl⟩ gS (fun b o _ _ e => kp b o e) fun v h' tk hv hk => ?_⟩
 exact h v h' tk hv fun b o e => hk b o (Nat.ne_of_lt (Heap.lt_size e)) (Nat.ne_of_lt (Nat.lt_succ_of_lt (Heap.lt_size e))) e
end
end L2
set_option Elab.async false
set_option linter.all false
set_option maxRecDepth 100000
namespace HT
open PySem PySem.Spec PyProof.Rows
noncomputable def lexGt : List Int → List Int → Bool
 | [], [] => false
 | [], _ :: _ => false
 | _ :: _, [] => true
 | x :: xs, y :: ys => if x = y then lexGt xs ys else decide (x > y)
theorem lexGt_cons (x y : Int) (xs ys : List Int) : lexGt (x :: xs) (y :: ys) = if x = y then lexGt xs ys else decide (x > y) := rfl
theorem rcGt_int (A : Around) (s : Shared) (a : Int) (t : Tok) (c : Int) (u : Tok) (prog : Program) (w : World) (E : Value → Shared → Prop) (Q : Value → Shared → Prop) (h : Q (.bool (decide (a > c))) s) :
  wpAny (model prog w) A (richCompare .Gt (.int a t) (.int c u)) Q E s :=
 (PyProof.Rows.gt_int h : wpAny (model prog w) A (compareOp .Gt (.int a t) (.int c u)) Q E s)
section
open PySem.AutoSeq1 (wpAny_loadPart')
open PySem.MeetsSeq PySem.MeetsSeq2 PySem.MeetsSeq3
theorem tuple_gt_ints (l b : Addr) (items items2 : Array Value) (n n2 : Nat) (dd dd2 : Option Addr) (sl sl2 : Array (Option Value)) (ns ms : List Int) (hi : IntsAre items.toList ns) (hj : IntsAre items2.toList ms) :
  Meets (Builtin.«tuple.__gt__» ⟨[.ref l, .ref b], []⟩)
   (fun _ R s => s.heap.get? l = some { cls := .type "tuple", dict := dd, data := .seq items n, slots := sl } ∧ s.heap.get? b = some { cls := .type "tuple", dict := dd2, data := .seq items2 n2, slots := sl2 } ∧
    R (.ok (.ret (.bool (lexGt ns ms)))) s) :=
 .of_wp fun prog w A R s h => by
  obtain ⟨hp, g, d, tk, os⟩ := s; obtain ⟨hl, hb, h⟩ := h
  have f2 := AutoSeq1.sub_tuple_tuple
  have z1 : items.size = ns.length := by rw [← hi.length]; simp
  have z2 : items2.size = ms.length := by rw [← hj.length]; simp
  wp_walk using wpAny_loadPart' hl, wpAny_loadPart' hb, wpAny_forIn_list _ (fun rest b s' => b.1 = none ∧ s' = ⟨hp, g, d, tk, os⟩ ∧ ∃ (vs ws : List Value) (ns' ms' : List Int), rest = vs.zip ws ∧
   IntsAre vs ns' ∧ IntsAre ws ms' ∧ ns'.length + items2.size = ms'.length + items.size ∧ R (.ok (.ret (.bool (lexGt ns' ms')))) ⟨hp, g, d, tk, os⟩) _
  case turn =>
   rintro ⟨y, x⟩ rest b s' ⟨hb', rfl, vs, ws, ns', ms', hz, hvi, hwi, hlen, hR⟩
   cases hvi with
   | nil => rw [List.zip_nil_left] at hz; cases hz
   | cons a t hvi' =>
    cases hwi with
    | nil => rw [List.zip_nil_right] at hz; cases hz
    | cons c u hwi' =>
     rw [List.zip_cons_cons] at hz
     injection hz with hyx hrest
     injection hyx with hy hx
     subst hy hx
     rw [lexGt_cons] at hR
     simp only [List.length_cons] at hlen
     obtain ⟨e, he, hiff⟩ := eqAt_int A.in1 ⟨hp, g, d, tk, os⟩ a t c u
     refine wpAny_bind (he prog w _ _ ?_)
     cases e with
     | true =>
      rw [if_pos (hiff.mp rfl)] at hR
      wp_walk
      exact ⟨rfl, rfl, _, _, _, _, hrest, hvi', hwi', by omega, hR⟩
     | false =>
      rw [if_neg (fun q => absurd (hiff.mpr q) Bool.false_ne_true)] at hR
      have hri := rcGt_int A.in1 ⟨hp, g, d, tk, os⟩ a t c u prog w
      wp_walk using hri
      exact ⟨_, rfl, by simpa using hR⟩
  case fin =>
   rintro ⟨b1, b2⟩ s' ⟨hb', rfl, vs, ws, ns', ms', hz, hvi, hwi, hlen, hR⟩
   simp only at hb'
   subst hb'
   have hv : lexGt ns' ms' = decide (items.size > items2.size) := by
    cases hvi with
    | nil =>
     cases hwi with
     | nil =>
      simp only [List.length_nil] at hlen
      exact (decide_eq_false (by omega)).symm
     | cons c u hw =>
      simp only [List.length_nil, List.length_cons] at hlen
      exact (decide_eq_false (by omega)).symm
    | cons a t hv =>
     cases hwi with
     | nil =>
      simp only [List.length_nil, List.length_cons] at hlen
      exact (decide_eq_true (by omega)).symm
     | cons c u hw =>
      rw [List.zip_cons_cons] at hz
      cases hz
   rw [hv] at hR
   wp_walk
   exact ⟨_, rfl, by simpa [Builtin.Tuple.tupleCompareSizes] using hR⟩
  case h =>
   exact ⟨rfl, rfl, items.toList, items2.toList, ns, ms, rfl, hi, hj, by omega, h⟩
end
section
variable {prog : Program} {w : World} {A : Around} {E : Value → Shared → Prop} {s : Shared}
theorem gt_tupInts {l b : Addr} {items items2 : Array Value} {ns ms : List Int} {Q : Value → Shared → Prop} (hl : IsTup s.heap l items) (hb : IsTup s.heap b items2) (hi : IntsAre items.toList ns) (hj : IntsAre items2.toList ms)
  (hu : A.units < cLine) (h : Q (.bool (lexGt ns ms)) s) : wpAny (model prog w) A (compareOp .Gt (.ref l) (.ref b)) Q E s := by
 obtain ⟨⟨cls, dd, data, sl⟩, ho, hc, n, hd⟩ := id hl
 obtain ⟨⟨cls2, dd2, data2, sl2⟩, ho2, hc2, n2, hd2⟩ := id hb
 simp only at hc hd hc2 hd2
 subst hc hd hc2 hd2
 exact richCompare_meets_room (op := .Gt) ⟨_, ho, rfl⟩ ⟨_, ho2, rfl⟩ PySem.F.slot_tuple_gt PySem.F.entry_tuple_gt (PySem.F.args_tuple_gt_2 _ _) (tuple_gt_ints l b items items2 n n2 dd dd2 sl sl2 ns ms hi hj)
  ⟨ho, ho2, show Value.bool (lexGt ns ms) ≠ Value.notImplemented ∧ Q (.bool (lexGt ns ms)) s from ⟨(fun x => nomatch x), h⟩⟩ hu
end
theorem lexGt_lt : ∀ a b : List Int, lexGt a b = lexLt b a
 | [], [] => rfl
 | [], _ :: _ => rfl
 | _ :: _, [] => rfl
 | x :: a, y :: b => by
  show (if x = y then lexGt a b else decide (x > y)) = (if y = x then lexLt b a else decide (y < x))
  by_cases e : x = y
  ·rw [if_pos e, if_pos e.symm]
   exact lexGt_lt a b
  ·rw [if_neg e, if_neg (Ne.symm e)]
end HT
namespace L2
open PySem PySem.Spec PyProof.Rows
section
variable {X : Cx}
noncomputable def rGtT (K : PySem.W.Frag) : R2 := fun x y H Q => ∃ a b ns ms, x = .ref a ∧ y = .ref b ∧ SqT K H a (ns.map V.int) ∧ SqT K H b (ms.map V.int) ∧ Q (.bl (HT.lexLt ms ns)) H
theorem op_gtT {K : PySem.W.Frag} (hK : X.K = K) (hu : X.A.units < cLine) : OpR X (compareOp .Gt) (rGtT K) := by
 subst hK
 intro pins s σ H x y v u Q I rx ry h
 obtain ⟨a, b, ns, ms, rfl, rfl, ha, hb, q⟩ := h
 cases rx
 cases ry
 obtain ⟨its, r1, p1, _⟩ := I.tuple ha
 obtain ⟨its2, r2, p2, _⟩ := I.tuple hb
 rw [← HT.lexGt_lt] at q
 exact HT.gt_tupInts p1 p2 (intsAre_of r1) (intsAre_of r2) hu ⟨.bl (HT.lexGt ns ms), H, I, rfl, q⟩
noncomputable def rBestTs (K : PySem.W.Frag) (gt : Bool) : List V → Hp → VK → Prop := fun vs H Q => ∃ (l : Addr) (xs : List V) (g : V → List Int), vs = [.ref l] ∧ SqL K H l xs ∧ 0 < xs.length ∧ (∀ x ∈ xs, ∃ t, x = .ref t ∧ SqT K H t ((g x).map V.int)) ∧
 ∀ x ∈ xs, (∀ y ∈ xs, (if gt then HT.lexLt (g x) (g y) else HT.lexLt (g y) (g x)) = false) → Q x H
theorem argBest_ok {bt : Nat → Nat → Bool} (as : ∀ i, bt i i = false) (tr : ∀ i j k, bt j i = false → bt k j = false → bt k i = false) (asy : ∀ i j, bt i j = true → bt j i = false) : ∀ k, argBest bt k ≤ k ∧ ∀ j ≤ k, bt j (argBest bt k) = false
 | 0 => ⟨Nat.le_refl _, fun j hj => by
   have : j = 0 := by omega
   subst this
   exact as _⟩
 | k + 1 => by
  obtain ⟨h1, h2⟩ := argBest_ok as tr asy k
  unfold argBest
  cases hb : bt (k + 1) (argBest bt k) with
  | true =>
   simp only [if_true]
   refine ⟨Nat.le_refl _, fun j hj => ?_⟩
   by_cases e : j = k + 1
   ·subst e
    exact as _
   ·exact tr _ _ _ (asy _ _ hb) (h2 j (by omega))
  | false =>
   simp only [Bool.false_eq_true, if_false]
   refine ⟨by omega, fun j hj => ?_⟩
   by_cases e : j = k + 1
   ·subst e
    exact hb
   ·exact h2 j (by omega)
theorem best_T {K : PySem.W.Frag} (hK : X.K = K) {pins : List (Addr × Obj)} {σ : St} {H : Hp} {s : Shared} {xs : List V} {its : List Value} {g : V → List Int} (I : Inv X pins σ H s) (r : Vals xs its) (hg : ∀ x ∈ xs, ∃ t, x = .ref t ∧ SqT K H t ((g x).map V.int)) :
  ∀ (i : Nat) (u : Value), its[i]? = some u → ∃ t ts, u = .ref t ∧ IsTup s.heap t ts ∧ IntsAre ts.toList (g (atV xs i)) := fun i u hu => by
 subst hK
 have hi := (List.getElem?_eq_some_iff.mp hu).1
 have lx := r.length
 have e := atV_get (xs := xs) (i := i) (by omega)
 obtain ⟨u', hu', ru⟩ := r.get e
 rw [hu] at hu'
 cases hu'
 obtain ⟨t, ex, st⟩ := hg _ (List.mem_of_getElem? e)
 rw [ex] at ru
 cases ru
 obtain ⟨ts, r1, p1, _⟩ := I.tuple st
 exact ⟨t, _, rfl, p1, intsAre_of r1⟩
theorem IsTup.kept {h h' : Heap} {t : Addr} {ts : Array Value} (x : IsTup h t ts) (k : ∀ o, h.get? t = some o → h'.get? t = some o) : IsTup h' t ts := by
 obtain ⟨o, e, r⟩ := x
 exact ⟨o, k o e, r⟩
theorem call_minTs {K : PySem.W.Frag} (hK : X.K = K) (hc : X.calm = true) (hu : X.A.units + 64 < cLine) : CallR X (.builtin "min") (rBestTs K false) := by
 intro pins s σ H vs us Q I r0 h
 obtain ⟨l, xs, g, rfl, hl, h0, hg, q⟩ := h
 obtain ⟨u, rfl, rx⟩ := vals1 r0
 cases rx
 subst hK
 obtain ⟨its, r, pl, hz⟩ := I.list hl
 have lx := r.length
 have at' := best_T rfl I r hg
 refine call_minH (bt := fun i j => HT.lexLt (g (atV xs i)) (g (atV xs j))) (I.ok.hd hc) pl.isList (by omega) (fun i j a b s1 Q1 E1 ha hb kp hq => ?_) fun v h' tk hv kp => ?_
 ·obtain ⟨t, ts, rfl, p1, i1⟩ := at' i a ha
  obtain ⟨t', ts', rfl, p2, i2⟩ := at' j b hb
  have k1 : ∀ {b : Addr} {o : Obj}, s.heap.get? b = some o → s1.heap.get? b = some o := fun {b o} e => kp b o (Nat.ne_of_lt (Heap.lt_size e)) (Nat.ne_of_lt (Nat.lt_succ_of_lt (Heap.lt_size e))) e
  exact HT.lt_tupInts (IsTup.kept p1 fun o e => k1 e) (IsTup.kept p2 fun o e => k1 e) i1 i2 (by show X.A.units + 1 < _; omega) hq
 ·obtain ⟨b1, b2⟩ := argBest_ok (bt := fun i j => HT.lexLt (g (atV xs i)) (g (atV xs j))) (fun i => by
   cases e : HT.lexLt (g (atV xs i)) (g (atV xs i)) with
   | false => rfl
   | true =>
    have := lex_as _ _ e
    rw [e] at this
    cases this) (fun i j k h1 h2 => lex_tr _ _ _ h1 h2) (fun i j h1 => lex_as _ _ h1) (its.length - 1)
  generalize argBest (fun i j => HT.lexLt (g (atV xs i)) (g (atV xs j))) (its.length - 1) = m at hv b1 b2
  have em := atV_get (xs := xs) (i := m) (by omega)
  obtain ⟨v', hv', rv⟩ := r.get em
  rw [hv] at hv'
  cases hv'
  refine ⟨_, H, I.kept (t' := tk) kp, rv, q _ (List.mem_of_getElem? em) fun y hy => ?_⟩
  obtain ⟨j, hj⟩ := List.getElem?_of_mem hy
  have lj := (List.getElem?_eq_some_iff.mp hj).1
  have ej := atV_get (xs := xs) (i := j) lj
  rw [hj] at ej
  cases ej
  exact b2 j (by omega)
theorem call_maxTs {K : PySem.W.Frag} (hK : X.K = K) (hc : X.calm = true) (hu : X.A.units + 64 < cLine) : CallR X (.builtin "max") (rBestTs K true) := by
 intro pins s σ H vs us Q I r0 h
 obtain ⟨l, xs, g, rfl, hl, h0, hg, q⟩ := h
 obtain ⟨u, rfl, rx⟩ := vals1 r0
 cases rx
 subst hK
 obtain ⟨its, r, pl, hz⟩ := I.list hl
 have lx := r.length
 have at' := best_T rfl I r hg
 refine call_maxH (bt := fun i j => HT.lexLt (g (atV xs j)) (g (atV xs i))) (I.ok.hd hc) pl.isList (by omega) (fun i j a b s1 Q1 E1 ha hb kp hq => ?_) fun v h' tk hv kp => ?_
 ·obtain ⟨t, ts, rfl, p1, i1⟩ := at' i a ha
  obtain ⟨t', ts', rfl, p2, i2⟩ := at' j b hb
  have k1 : ∀ {b : Addr} {o : Obj}, s.heap.get? b = some o → s1.heap.get? b = some o := fun {b o} e => kp b o (Nat.ne_of_lt (Heap.lt_size e)) (Nat.ne_of_lt (Nat.lt_succ_of_lt (Heap.lt_size e))) e
  exact HT.gt_tupInts (IsTup.kept p1 fun o e => k1 e) (IsTup.kept p2 fun o e => k1 e) i1 i2 (by show X.A.units + 1 < _; omega) (by rw [HT.lexGt_lt]; exact hq)
 ·obtain ⟨b1, b2⟩ := argBest_ok (bt := fun i j => HT.lexLt (g (atV xs j)) (g (atV xs i))) (fun i => by
   cases e : HT.lexLt (g (atV xs i)) (g (atV xs i)) with
   | false => rfl
   | true =>
    have := lex_as _ _ e
    rw [e] at this
    cases this) (fun i j k h1 h2 => lex_tr _ _ _ h2 h1) (fun i j h1 => lex_as _ _ h1) (its.length - 1)
  generalize argBest (fun i j => HT.lexLt (g (atV xs j)) (g (atV xs i))) (its.length - 1) = m at hv b1 b2
  have em := atV_get (xs := xs) (i := m) (by omega)
  obtain ⟨v', hv', rv⟩ := r.get em
  rw [hv] at hv'
  cases hv'
  refine ⟨_, H, I.kept (t' := tk) kp, rv, q _ (List.mem_of_getElem? em) fun y hy => ?_⟩
  obtain ⟨j, hj⟩ := List.getElem?_of_mem hy
  have lj := (List.getElem?_eq_some_iff.mp hj).1
  have ej := atV_get (xs := xs) (i := j) lj
  rw [hj] at ej
  cases ej
  exact b2 j (by omega)
end
end L2
namespace MA
noncomputable def ab (i : Int) : Int := if i < 0 then -i else i
end MA
section
open PySem L2 MA PyProof.Rows
local macro_rules | `(tactic| walk_at "RD") => `(tactic| simp only [tSeq, List.cons_inj_right, tNext, tIfS, tTest, tOp, tUn, rI, rI0, rU, tVar, tC, tAsg, gName, tRet, tRetN, tDrop, tCall, tCons, tNil, tCB, tTup, tLst, rEq, rNe, ixF, setF, gSub, tPar, tNot, tAnd, tOr, tB, tNotV, tAndV, tOrV, tIf, List.append_nil, List.getElem?_cons_zero, List.getElem?_cons_succ, List.set_cons_zero, List.set_cons_succ, Option.some.injEq, V.int.injEq, V.bl.injEq, V.ref.injEq, exists_eq_left', exists_eq_left, exists_eq_right, exists_and_left, exists_and_right, and_true, true_and, and_assoc, List.cons.injEq, optK_some, seqOf_l, seqOf_t, tYes, tIsN, tNotN, rLenK, tML, tML0, appR, popR, clrR, catF, listF, lenF, slF, tSl, tPart, tNoPart, tyN, isiF, isiT_1, isiT_2, isiT_3, isiT_4, isiT_5, isiT_6, isiT_7, lstOf_l, tup3_some, tup2_some, Option.isSome_some, List.dropLast, List.getLast?, L2.stLC, frV, List.map_cons, List.map_nil, List.replicate_succ, List.replicate_zero, List.cons_append, List.nil_append, List.drop_succ_cons, List.drop_zero, Option.join_some, atI_0, atI_1, atI_2, atI_3, scal, if_true, if_false, Bool.false_eq_true, Bool.true_eq_false, reduceIte, reduceCtorEq, decide_eq_true_eq, Bool.not_eq_true', decide_eq_false_iff_not, eq_self, List.length_cons, List.length_nil, Nat.zero_add, Nat.reduceAdd, Nat.reduceLT, upd_same, Int.cast_ofNat_Int, Int.reduceToNat, Int.reducePow, Int.reduceLE, Int.reduceLT, Int.reduceSub, Int.reduceAdd, Int.reduceMul, Int.reduceNeg, bd10, bd64, bd2, bd3, bd4, ixN_3_0, ixN_3_1, ixN_3_2, ixN_2_0, ixN_2_1, ixN_4_0, ixN_4_1, ixN_4_2, ixN_4_3, ne_eq, Int.reduceEq, not_false_eq_true, not_true_eq_false, false_or, or_false, false_and, and_false, exists_false, exists_const, tCont, tRaise, tRaise0, tTry, tCallS, goneEnds, tPar3, fVar, fI, fI0, fU, fTest, fCons, fNil, fEq, fNe, fNeB, tDg, tDp, dkOf_k, tDisp, tPairs, tDpT, tDNewT, tDgI, tDpI, tDgetI, popAtR, insR, revR, tDNewK, stLam, tSortKI, tSortKT, tRaiseN, tAt, tTryN])
local macro_rules | `(tactic| o_head ⟨$a0⟩) => `(tactic| simp only [tSeq, List.cons_inj_right, tNext, tIfS, tTest, tOp, tUn, rI, rI0, rU, tVar, tC, tAsg, gName, tRet, tRetN, tDrop, tCall, tCons, tNil, tCB, tTup, tLst, rEq, rNe, ixF, setF, gSub, tPar, tNot, tAnd, tOr, tB, tNotV, tAndV, tOrV, tIf, List.append_nil, List.getElem?_cons_zero, List.getElem?_cons_succ, List.set_cons_zero, List.set_cons_succ, Option.some.injEq, V.int.injEq, V.bl.injEq, V.ref.injEq, exists_eq_left', exists_eq_left, exists_eq_right, exists_and_left, exists_and_right, and_true, true_and, and_assoc, List.cons.injEq, optK_some, seqOf_l, seqOf_t, tYes, tIsN, tNotN, rLenK, tML, tML0, appR, popR, clrR, catF, listF, lenF, slF, tSl, tPart, tNoPart, tyN, isiF, isiT_1, isiT_2, isiT_3, isiT_4, isiT_5, isiT_6, isiT_7, lstOf_l, tup3_some, tup2_some, Option.isSome_some, List.dropLast, List.getLast?, L2.stLC, frV, List.map_cons, List.map_nil, List.replicate_succ, List.replicate_zero, List.cons_append, List.nil_append, List.drop_succ_cons, List.drop_zero, Option.join_some, atI_0, atI_1, atI_2, atI_3, scal, if_true, if_false, Bool.false_eq_true, Bool.true_eq_false, reduceIte, reduceCtorEq, decide_eq_true_eq, Bool.not_eq_true', decide_eq_false_iff_not, eq_self, List.length_cons, List.length_nil, Nat.zero_add, Nat.reduceAdd, Nat.reduceLT, upd_same, Int.cast_ofNat_Int, Int.reduceToNat, Int.reducePow, Int.reduceLE, Int.reduceLT, Int.reduceSub, Int.reduceAdd, Int.reduceMul, Int.reduceNeg, bd10, bd64, bd2, bd3, bd4, ixN_3_0, ixN_3_1, ixN_3_2, ixN_2_0, ixN_2_1, ixN_4_0, ixN_4_1, ixN_4_2, ixN_4_3, ne_eq, Int.reduceEq, not_false_eq_true, not_true_eq_false, false_or, or_false, false_and, and_false, exists_false, exists_const, tCont, tRaise, tRaise0, tTry, tCallS, goneEnds, tPar3, fVar, fI, fI0, fU, fTest, fCons, fNil, fEq, fNe, fNeB, tDg, tDp, dkOf_k, tDisp, tPairs, tDpT, tDNewT, tDgI, tDpI, tDgetI, popAtR, insR, revR, tDNewK, stLam, tSortKI, tSortKT, tRaiseN, tAt, tTryN, $a0:term])
local macro_rules | `(tactic| o_head ⟨$a0, $a1⟩) => `(tactic| simp only [tSeq, List.cons_inj_right, tNext, tIfS, tTest, tOp, tUn, rI, rI0, rU, tVar, tC, tAsg, gName, tRet, tRetN, tDrop, tCall, tCons, tNil, tCB, tTup, tLst, rEq, rNe, ixF, setF, gSub, tPar, tNot, tAnd, tOr, tB, tNotV, tAndV, tOrV, tIf, List.append_nil, List.getElem?_cons_zero, List.getElem?_cons_succ, List.set_cons_zero, List.set_cons_succ, Option.some.injEq, V.int.injEq, V.bl.injEq, V.ref.injEq, exists_eq_left', exists_eq_left, exists_eq_right, exists_and_left, exists_and_right, and_true, true_and, and_assoc, List.cons.injEq, optK_some, seqOf_l, seqOf_t, tYes, tIsN, tNotN, rLenK, tML, tML0, appR, popR, clrR, catF, listF, lenF, slF, tSl, tPart, tNoPart, tyN, isiF, isiT_1, isiT_2, isiT_3, isiT_4, isiT_5, isiT_6, isiT_7, lstOf_l, tup3_some, tup2_some, Option.isSome_some, List.dropLast, List.getLast?, L2.stLC, frV, List.map_cons, List.map_nil, List.replicate_succ, List.replicate_zero, List.cons_append, List.nil_append, List.drop_succ_cons, List.drop_zero, Option.join_some, atI_0, atI_1, atI_2, atI_3, scal, if_true, if_false, Bool.false_eq_true, Bool.true_eq_false, reduceIte, reduceCtorEq, decide_eq_true_eq, Bool.not_eq_true', decide_eq_false_iff_not, eq_self, List.length_cons, List.length_nil, Nat.zero_add, Nat.reduceAdd, Nat.reduceLT, upd_same, Int.cast_ofNat_Int, Int.reduceToNat, Int.reducePow, Int.reduceLE, Int.reduceLT, Int.reduceSub, Int.reduceAdd, Int.reduceMul, Int.reduceNeg, bd10, bd64, bd2, bd3, bd4, ixN_3_0, ixN_3_1, ixN_3_2, ixN_2_0, ixN_2_1, ixN_4_0, ixN_4_1, ixN_4_2, ixN_4_3, ne_eq, Int.reduceEq, not_false_eq_true, not_true_eq_false, false_or, or_false, false_and, and_false, exists_false, exists_const, tCont, tRaise, tRaise0, tTry, tCallS, goneEnds, tPar3, fVar, fI, fI0, fU, fTest, fCons, fNil, fEq, fNe, fNeB, tDg, tDp, dkOf_k, tDisp, tPairs, tDpT, tDNewT, tDgI, tDpI, tDgetI, popAtR, insR, revR, tDNewK, stLam, tSortKI, tSortKT, tRaiseN, tAt, tTryN, $a0:term, $a1:term])
local macro_rules | `(tactic| o_head ⟨$a0, $a1, $a2⟩) => `(tactic| simp only [tSeq, List.cons_inj_right, tNext, tIfS, tTest, tOp, tUn, rI, rI0, rU, tVar, tC, tAsg, gName, tRet, tRetN, tDrop, tCall, tCons, tNil, tCB, tTup, tLst, rEq, rNe, ixF, setF, gSub, tPar, tNot, tAnd, tOr, tB, tNotV, tAndV, tOrV, tIf, List.append_nil, List.getElem?_cons_zero, List.getElem?_cons_succ, List.set_cons_zero, List.set_cons_succ, Option.some.injEq, V.int.injEq, V.bl.injEq, V.ref.injEq, exists_eq_left', exists_eq_left, exists_eq_right, exists_and_left, exists_and_right, and_true, true_and, and_assoc, List.cons.injEq, optK_some, seqOf_l, seqOf_t, tYes, tIsN, tNotN, rLenK, tML, tML0, appR, popR, clrR, catF, listF, lenF, slF, tSl, tPart, tNoPart, tyN, isiF, isiT_1, isiT_2, isiT_3, isiT_4, isiT_5, isiT_6, isiT_7, lstOf_l, tup3_some, tup2_some, Option.isSome_some, List.dropLast, List.getLast?, L2.stLC, frV, List.map_cons, List.map_nil, List.replicate_succ, List.replicate_zero, List.cons_append, List.nil_append, List.drop_succ_cons, List.drop_zero, Option.join_some, atI_0, atI_1, atI_2, atI_3, scal, if_true, if_false, Bool.false_eq_true, Bool.true_eq_false, reduceIte, reduceCtorEq, decide_eq_true_eq, Bool.not_eq_true', decide_eq_false_iff_not, eq_self, List.length_cons, List.length_nil, Nat.zero_add, Nat.reduceAdd, Nat.reduceLT, upd_same, Int.cast_ofNat_Int, Int.reduceToNat, Int.reducePow, Int.reduceLE, Int.reduceLT, Int.reduceSub, Int.reduceAdd, Int.reduceMul, Int.reduceNeg, bd10, bd64, bd2, bd3, bd4, ixN_3_0, ixN_3_1, ixN_3_2, ixN_2_0, ixN_2_1, ixN_4_0, ixN_4_1, ixN_4_2, ixN_4_3, ne_eq, Int.reduceEq, not_false_eq_true, not_true_eq_false, false_or, or_false, false_and, and_false, exists_false, exists_const, tCont, tRaise, tRaise0, tTry, tCallS, goneEnds, tPar3, fVar, fI, fI0, fU, fTest, fCons, fNil, fEq, fNe, fNeB, tDg, tDp, dkOf_k, tDisp, tPairs, tDpT, tDNewT, tDgI, tDpI, tDgetI, popAtR, insR, revR, tDNewK, stLam, tSortKI, tSortKT, tRaiseN, tAt, tTryN, $a0:term, $a1:term, $a2:term])
local macro_rules | `(tactic| o_head ⟨$a0, $a1, $a2, $a3⟩) => `(tactic| simp only [tSeq, List.cons_inj_right, tNext, tIfS, tTest, tOp, tUn, rI, rI0, rU, tVar, tC, tAsg, gName, tRet, tRetN, tDrop, tCall, tCons, tNil, tCB, tTup, tLst, rEq, rNe, ixF, setF, gSub, tPar, tNot, tAnd, tOr, tB, tNotV, tAndV, tOrV, tIf, List.append_nil, List.getElem?_cons_zero, List.getElem?_cons_succ, List.set_cons_zero, List.set_cons_succ, Option.some.injEq, V.int.injEq, V.bl.injEq, V.ref.injEq, exists_eq_left', exists_eq_left, exists_eq_right, exists_and_left, exists_and_right, and_true, true_and, and_assoc, List.cons.injEq, optK_some, seqOf_l, seqOf_t, tYes, tIsN, tNotN, rLenK, tML, tML0, appR, popR, clrR, catF, listF, lenF, slF, tSl, tPart, tNoPart, tyN, isiF, isiT_1, isiT_2, isiT_3, isiT_4, isiT_5, isiT_6, isiT_7, lstOf_l, tup3_some, tup2_some, Option.isSome_some, List.dropLast, List.getLast?, L2.stLC, frV, List.map_cons, List.map_nil, List.replicate_succ, List.replicate_zero, List.cons_append, List.nil_append, List.drop_succ_cons, List.drop_zero, Option.join_some, atI_0, atI_1, atI_2, atI_3, scal, if_true, if_false, Bool.false_eq_true, Bool.true_eq_false, reduceIte, reduceCtorEq, decide_eq_true_eq, Bool.not_eq_true', decide_eq_false_iff_not, eq_self, List.length_cons, List.length_nil, Nat.zero_add, Nat.reduceAdd, Nat.reduceLT, upd_same, Int.cast_ofNat_Int, Int.reduceToNat, Int.reducePow, Int.reduceLE, Int.reduceLT, Int.reduceSub, Int.reduceAdd, Int.reduceMul, Int.reduceNeg, bd10, bd64, bd2, bd3, bd4, ixN_3_0, ixN_3_1, ixN_3_2, ixN_2_0, ixN_2_1, ixN_4_0, ixN_4_1, ixN_4_2, ixN_4_3, ne_eq, Int.reduceEq, not_false_eq_true, not_true_eq_false, false_or, or_false, false_and, and_false, exists_false, exists_const, tCont, tRaise, tRaise0, tTry, tCallS, goneEnds, tPar3, fVar, fI, fI0, fU, fTest, fCons, fNil, fEq, fNe, fNeB, tDg, tDp, dkOf_k, tDisp, tPairs, tDpT, tDNewT, tDgI, tDpI, tDgetI, popAtR, insR, revR, tDNewK, stLam, tSortKI, tSortKT, tRaiseN, tAt, tTryN, $a0:term, $a1:term, $a2:term, $a3:term])
local macro_rules | `(tactic| o_head ⟨$a0, $a1, $a2, $a3, $a4⟩) => `(tactic| simp only [tSeq, List.cons_inj_right, tNext, tIfS, tTest, tOp, tUn, rI, rI0, rU, tVar, tC, tAsg, gName, tRet, tRetN, tDrop, tCall, tCons, tNil, tCB, tTup, tLst, rEq, rNe, ixF, setF, gSub, tPar, tNot, tAnd, tOr, tB, tNotV, tAndV, tOrV, tIf, List.append_nil, List.getElem?_cons_zero, List.getElem?_cons_succ, List.set_cons_zero, List.set_cons_succ, Option.some.injEq, V.int.injEq, V.bl.injEq, V.ref.injEq, exists_eq_left', exists_eq_left, exists_eq_right, exists_and_left, exists_and_right, and_true, true_and, and_assoc, List.cons.injEq, optK_some, seqOf_l, seqOf_t, tYes, tIsN, tNotN, rLenK, tML, tML0, appR, popR, clrR, catF, listF, lenF, slF, tSl, tPart, tNoPart, tyN, isiF, isiT_1, isiT_2, isiT_3, isiT_4, isiT_5, isiT_6, isiT_7, lstOf_l, tup3_some, tup2_some, Option.isSome_some, List.dropLast, List.getLast?, L2.stLC, frV, List.map_cons, List.map_nil, List.replicate_succ, List.replicate_zero, List.cons_append, List.nil_append, List.drop_succ_cons, List.drop_zero, Option.join_some, atI_0, atI_1, atI_2, atI_3, scal, if_true, if_false, Bool.false_eq_true, Bool.true_eq_false, reduceIte, reduceCtorEq, decide_eq_true_eq, Bool.not_eq_true', decide_eq_false_iff_not, eq_self, List.length_cons, List.length_nil, Nat.zero_add, Nat.reduceAdd, Nat.reduceLT, upd_same, Int.cast_ofNat_Int, Int.reduceToNat, Int.reducePow, Int.reduceLE, Int.reduceLT, Int.reduceSub, Int.reduceAdd, Int.reduceMul, Int.reduceNeg, bd10, bd64, bd2, bd3, bd4, ixN_3_0, ixN_3_1, ixN_3_2, ixN_2_0, ixN_2_1, ixN_4_0, ixN_4_1, ixN_4_2, ixN_4_3, ne_eq, Int.reduceEq, not_false_eq_true, not_true_eq_false, false_or, or_false, false_and, and_false, exists_false, exists_const, tCont, tRaise, tRaise0, tTry, tCallS, goneEnds, tPar3, fVar, fI, fI0, fU, fTest, fCons, fNil, fEq, fNe, fNeB, tDg, tDp, dkOf_k, tDisp, tPairs, tDpT, tDNewT, tDgI, tDpI, tDgetI, popAtR, insR, revR, tDNewK, stLam, tSortKI, tSortKT, tRaiseN, tAt, tTryN, $a0:term, $a1:term, $a2:term, $a3:term, $a4:term])
local macro_rules | `(tactic| o_head ⟨$a0, $a1, $a2, $a3, $a4, $a5, $a6, $a7, $a8⟩) => `(tactic| simp only [tSeq, List.cons_inj_right, tNext, tIfS, tTest, tOp, tUn, rI, rI0, rU, tVar, tC, tAsg, gName, tRet, tRetN, tDrop, tCall, tCons, tNil, tCB, tTup, tLst, rEq, rNe, ixF, setF, gSub, tPar, tNot, tAnd, tOr, tB, tNotV, tAndV, tOrV, tIf, List.append_nil, List.getElem?_cons_zero, List.getElem?_cons_succ, List.set_cons_zero, List.set_cons_succ, Option.some.injEq, V.int.injEq, V.bl.injEq, V.ref.injEq, exists_eq_left', exists_eq_left, exists_eq_right, exists_and_left, exists_and_right, and_true, true_and, and_assoc, List.cons.injEq, optK_some, seqOf_l, seqOf_t, tYes, tIsN, tNotN, rLenK, tML, tML0, appR, popR, clrR, catF, listF, lenF, slF, tSl, tPart, tNoPart, tyN, isiF, isiT_1, isiT_2, isiT_3, isiT_4, isiT_5, isiT_6, isiT_7, lstOf_l, tup3_some, tup2_some, Option.isSome_some, List.dropLast, List.getLast?, L2.stLC, frV, List.map_cons, List.map_nil, List.replicate_succ, List.replicate_zero, List.cons_append, List.nil_append, List.drop_succ_cons, List.drop_zero, Option.join_some, atI_0, atI_1, atI_2, atI_3, scal, if_true, if_false, Bool.false_eq_true, Bool.true_eq_false, reduceIte, reduceCtorEq, decide_eq_true_eq, Bool.not_eq_true', decide_eq_false_iff_not, eq_self, List.length_cons, List.length_nil, Nat.zero_add, Nat.reduceAdd, Nat.reduceLT, upd_same, Int.cast_ofNat_Int, Int.reduceToNat, Int.reducePow, Int.reduceLE, Int.reduceLT, Int.reduceSub, Int.reduceAdd, Int.reduceMul, Int.reduceNeg, bd10, bd64, bd2, bd3, bd4, ixN_3_0, ixN_3_1, ixN_3_2, ixN_2_0, ixN_2_1, ixN_4_0, ixN_4_1, ixN_4_2, ixN_4_3, ne_eq, Int.reduceEq, not_false_eq_true, not_true_eq_false, false_or, or_false, false_and, and_false, exists_false, exists_const, tCont, tRaise, tRaise0, tTry, tCallS, goneEnds, tPar3, fVar, fI, fI0, fU, fTest, fCons, fNil, fEq, fNe, fNeB, tDg, tDp, dkOf_k, tDisp, tPairs, tDpT, tDNewT, tDgI, tDpI, tDgetI, popAtR, insR, revR, tDNewK, stLam, tSortKI, tSortKT, tRaiseN, tAt, tTryN, $a0:term, $a1:term, $a2:term, $a3:term, $a4:term, $a5:term, $a6:term, $a7:term, $a8:term])
namespace LW
open PySem L2 MA PyProof.Rows
noncomputable def top (i : Nat) : Stmt := PySem.Challenge.pw_nearlands_k43_halves.main.body.getD i (.Pass ⟨0, 0, 0, 0⟩)
noncomputable abbrev s_check_count : Stmt := top 8
noncomputable abbrev s_check_spots : Stmt := top 9
noncomputable abbrev s_by_place : Stmt := top 10
noncomputable abbrev s_halves : Stmt := top 12
noncomputable abbrev s__law_feed : Stmt := top 14
noncomputable abbrev s__law_draw : Stmt := top 15
noncomputable abbrev s__law_great : Stmt := top 16
noncomputable abbrev s__law_scale : Stmt := top 17
noncomputable abbrev s__law_spot : Stmt := top 18
noncomputable abbrev s__law_dozen : Stmt := top 19
noncomputable abbrev s__law_spots : Stmt := top 20
noncomputable abbrev s__law_world : Stmt := top 21
noncomputable abbrev s__law_told : Stmt := top 22
noncomputable abbrev s__law_right : Stmt := top 23
noncomputable abbrev s_law : Stmt := top 24
theorem hu65 {A : Around} {k : Nat} (hr : Room k A) : A.units + 65 < cLine := by have := hr.un; omega
theorem hu64 {A : Around} {k : Nat} (hr : Room k A) : A.units + 64 < cLine := hr.units
structure Cz where
 LandError : Addr
 NoBox : Addr
 NoLot : Addr
 TooMany : Addr
 NoSpot : Addr
 lc_by_place : Addr
 lp_by_place : Addr
noncomputable def tg_by_place : Array Value := L2.tagL 26 41 "by_place.<locals>.<lambda>"
structure Txt (P : Program) (K : PySem.W.Frag) (mg : Str → Option Value) (C : Cz) : Prop where
 b_ValueError : mg "ValueError" = none
 b_any : mg "any" = none
 b_bool : mg "bool" = none
 b_enumerate : mg "enumerate" = none
 b_int : mg "int" = none
 b_isinstance : mg "isinstance" = none
 b_len : mg "len" = none
 b_list : mg "list" = none
 b_max : mg "max" = none
 b_min : mg "min" = none
 b_range : mg "range" = none
 b_sorted : mg "sorted" = none
 b_super : mg "super" = none
 b_tuple : mg "tuple" = none
 n_NoSpot : ∃ fI, ExcN P K C.NoSpot fI
 kp_NoSpot : PySem.W.keepIn K (.ref C.NoSpot) = true
 eb_NoSpot : ExcB K C.NoSpot
 at_NoSpot : PySem.W.findIn K (.ref C.NoSpot) "at" = some none
 hd_NoSpot : PySem.W.hasDictIn K C.NoSpot = true
 g_LandError : mg "LandError" = some (.ref C.LandError)
 g_NoBox : mg "NoBox" = some (.ref C.NoBox)
 g_NoLot : mg "NoLot" = some (.ref C.NoLot)
 g_TooMany : mg "TooMany" = some (.ref C.TooMany)
 g_NoSpot : mg "NoSpot" = some (.ref C.NoSpot)
 x_NoLot : ExcC K C.NoLot
 x_TooMany : ExcC K C.TooMany
 n_MOST_SPOTS : ∃ t, mg "MOST_SPOTS" = some (.int 12 t)
 m_NoLot_NoLot : PySem.W.exmOne K (.ref C.NoLot) (.ref C.NoLot) = some true
 m_TooMany_NoLot : PySem.W.exmOne K (.ref C.TooMany) (.ref C.NoLot) = some false
 m_TooMany_TooMany : PySem.W.exmOne K (.ref C.TooMany) (.ref C.TooMany) = some true
 m_NoSpot_NoLot : PySem.W.exmOne K (.ref C.NoSpot) (.ref C.NoLot) = some false
 m_NoSpot_TooMany : PySem.W.exmOne K (.ref C.NoSpot) (.ref C.TooMany) = some false
 m_NoSpot_NoSpot : PySem.W.exmOne K (.ref C.NoSpot) (.ref C.NoSpot) = some true
 i_NoLot_ValueError : PySem.W.kitOne K (.ref C.NoLot) (.type "ValueError") = some true
 i_TooMany_ValueError : PySem.W.kitOne K (.ref C.TooMany) (.type "ValueError") = some true
 j_NoLot_NoSpot_TooMany_NoBox : PySem.W.kitAny K (.ref C.NoLot) [(.ref C.NoSpot), (.ref C.TooMany), (.ref C.NoBox)] = some false
 j_TooMany_NoSpot_NoLot_NoBox : PySem.W.kitAny K (.ref C.TooMany) [(.ref C.NoSpot), (.ref C.NoLot), (.ref C.NoBox)] = some false
 j_NoSpot_TooMany_NoLot_NoBox : PySem.W.kitAny K (.ref C.NoSpot) [(.ref C.TooMany), (.ref C.NoLot), (.ref C.NoBox)] = some false
end LW
namespace LW
open PySem L2 MA PyProof.Rows
noncomputable abbrev P2 := Int × Int
noncomputable def R2At (H : Hp) (qs : List Addr) (rs : List P2) : Prop := qs.length = rs.length ∧ ∀ (i : Nat) (q : Addr) (z : P2), qs[i]? = some q → rs[i]? = some z → H q = some (.tup [.int z.1, .int z.2])
theorem R2At.ext {H H' : Hp} {qs : List Addr} {rs : List P2} (h : R2At H qs rs) (x : Ext H H') : R2At H' qs rs := ⟨h.1, fun i q z a b => x _ _ (h.2 i q z a b)⟩
theorem R2At.at {H : Hp} {qs : List Addr} {rs : List P2} (h : R2At H qs rs) {i : Nat} {q : Addr} (hq : qs[i]? = some q) : ∃ r, rs[i]? = some r ∧ H q = some (.tup [.int r.1, .int r.2]) := by
 have li := (List.getElem?_eq_some_iff.mp hq).1
 have e := List.getElem?_eq_getElem (l := rs) (i := i) (by rw [← h.1]; exact li)
 exact ⟨_, e, h.2 i q _ hq e⟩
theorem refs_get {qs : List Addr} {i : Nat} {v : V} (h : (qs.map V.ref)[i]? = some v) : ∃ q, qs[i]? = some q ∧ v = .ref q := by
 rw [List.getElem?_map] at h
 cases e : qs[i]? with
 | none => rw [e] at h; cases h
 | some q => rw [e] at h; exact ⟨q, rfl, (Option.some.inj h).symm⟩
theorem Ext.none {H H' : Hp} {b : Addr} (f : Ext H H') (h : H' b = none) : H b = none := by
 cases q : H b with
 | none => rfl
 | some o =>
  rw [f b o q] at h
  cases h
theorem cut_to (xs : List V) (k : Nat) : cutV xs none (some (k : Int)) = xs.take k := by
 unfold cutV
 rw [HT.sIx_nat, HT.sIx_none, List.drop_zero, Nat.sub_zero]
 by_cases h : k ≤ xs.length
 ·rw [Nat.min_eq_left h]
 ·rw [Nat.min_eq_right (by omega), List.take_length, List.take_of_length_le (by omega)]
structure SpOk (H : Hp) (b l : Addr) (x y u v : Int) (qs : List Addr) (rs : List P2) : Prop where
 bx : H b = some (.tup [.int x, .int y, .int u, .int v])
 sp : H l = some (.lst (qs.map V.ref))
 at_ : R2At H qs rs
 xu : x < u
 yv : y < v
 ins : ∀ r ∈ rs, x ≤ r.1 ∧ r.1 ≤ u ∧ y ≤ r.2 ∧ r.2 ≤ v
 nd : rs.Nodup
 n0 : 0 < rs.length
 n12 : rs.length ≤ 12
 sz : (-(4 * 10 ^ 30) ≤ x ∧ u ≤ 4 * 10 ^ 30) ∧ (-(4 * 10 ^ 30) ≤ y ∧ v ≤ 4 * 10 ^ 30)
theorem SpOk.ext {H H' : Hp} {b l : Addr} {x y u v : Int} {qs : List Addr} {rs : List P2} (h : SpOk H b l x y u v qs rs) (e : Ext H H') : SpOk H' b l x y u v qs rs :=
 ⟨e _ _ h.bx, e _ _ h.sp, h.at_.ext e, h.xu, h.yv, h.ins, h.nd, h.n0, h.n12, h.sz⟩
theorem bd29 {n : Int} (h1 : -(4 * 10 ^ 30) ≤ n) (h2 : n ≤ 4 * 10 ^ 30) (m : Nat) (hm : 110 ≤ m := by decide) : Bd m n := Bd.mono (m := 110) (Bd.of_le (4 * 10 ^ 30) h1 h2 (by decide)) hm
theorem SpOk.b2 {H : Hp} {b l : Addr} {x y u v : Int} {qs : List Addr} {rs : List P2} (h : SpOk H b l x y u v qs rs) {r : P2} (hr : r ∈ rs) : B2 200 r := by
 have := h.ins r hr
 have z := h.sz
 exact ⟨bd29 (by omega) (by omega) 200, bd29 (by omega) (by omega) 200⟩
noncomputable def t2d (r : P2) : PyData := .tuple [.int r.1, .int r.2]
theorem rdy_rs {K : PySem.W.Frag} {H : Hp} : ∀ {qs : List Addr} {rs : List P2}, R2At H qs rs → RdyAll K H (qs.map V.ref) (rs.map t2d)
 | [], [], _ => .nil
 | [], _ :: _, h => by simp [R2At] at h
 | _ :: _, [], h => by simp [R2At] at h
 | p :: ps, c :: cs, h => .cons (rdy_t2 (h.2 0 p c rfl rfl)) (rdy_rs ⟨by simpa using h.1, fun i q z h1 h2 => h.2 (i + 1) q z h1 h2⟩)
theorem R2At.take {H : Hp} {qs : List Addr} {rs : List P2} (h : R2At H qs rs) (k : Nat) : R2At H (qs.take k) (rs.take k) := by
 refine ⟨by rw [List.length_take, List.length_take, h.1], fun i q z h1 h2 => ?_⟩
 by_cases hi : i < k
 ·rw [List.getElem?_take_of_lt hi] at h1 h2
  exact h.2 i q z h1 h2
 ·rw [List.getElem?_eq_none (by rw [List.length_take]; omega)] at h1
  cases h1
theorem lay_rs : ∀ rs : List P2, PyData.canLayAll0 (rs.map t2d) = true ∧ PyData.depthAll (rs.map t2d) ≤ 1
 | [] => ⟨rfl, by simp [PyData.depthAll]⟩
 | c :: cs => by
  obtain ⟨a, b⟩ := lay_rs cs
  constructor
  ·simp [t2d, PyData.canLayAll0, PyData.canLay0]
   exact a
  ·simp [t2d, PyData.depthAll, PyData.depth] at b ⊢
   omega
theorem shaped_rs (rs : List P2) : SeqAt.shaped (.list (rs.map t2d)) = true := by
 obtain ⟨a, b⟩ := lay_rs rs
 unfold SeqAt.shaped
 rw [Bool.and_eq_true, decide_eq_true_eq]
 exact ⟨by simp [PyData.canLay0, a], by simp [PyData.depth]; omega⟩
theorem shaped_t2 (r : P2) : SeqAt.shaped (t2d r) = true := by
 simp [t2d, SeqAt.shaped, PyData.canLay0, PyData.canLayAll0, PyData.depth, PyData.depthAll]
theorem nomix_t2 (a b : P2) : SeqAt.noMix (t2d a) (t2d b) = true := by
 simp [t2d, SeqAt.noMix, SeqAt.noMixAll]
structure LpOk (H : Hp) (l : Addr) (qs : List Addr) (rs : List P2) : Prop where
 sp : H l = some (.lst (qs.map V.ref))
 at_ : R2At H qs rs
 nd : rs.Nodup
 n0 : 0 < rs.length
 n12 : rs.length ≤ 12
 sz : ∀ r ∈ rs, Bd 101 r.1 ∧ Bd 101 r.2
theorem LpOk.ext {H H' : Hp} {l : Addr} {qs : List Addr} {rs : List P2} (h : LpOk H l qs rs) (e : Ext H H') : LpOk H' l qs rs := ⟨e _ _ h.sp, h.at_.ext e, h.nd, h.n0, h.n12, h.sz⟩
noncomputable def sp_check_countE (C : Cz) : Sp := fun vs H Q E => ∃ (l : Addr) (xs : List V), vs = [.ref l] ∧ H l = some (.lst xs) ∧ ((0 < xs.length ∧ xs.length ≤ 12 ∧ Q .non H) ∨ (¬ (0 < xs.length ∧ xs.length ≤ 12) ∧ E (.ref C.TooMany) none H))
noncomputable def FirstDup (rs : List P2) (i : Nat) : Prop := (rs.take i).Nodup ∧ ∃ r, rs[i]? = some r ∧ r ∈ rs.take i
theorem mem_before {rs : List P2} {i : Nat} {r : P2} : decide (Spec.countIn (t2d r) ((rs.take i).map t2d) ≠ 0) = decide (r ∈ rs.take i) := by
 rw [← any_eqv_countIn _ _ (fun y hy => by obtain ⟨z, _, rfl⟩ := List.mem_map.mp hy; exact nomix_t2 z r)]
 by_cases h : r ∈ rs.take i
 ·rw [decide_eq_true h, List.any_eq_true]
  exact ⟨t2d r, List.mem_map.mpr ⟨r, h, rfl⟩, by show PyData.eqv (.tuple [.int r.1, .int r.2]) (.tuple [.int r.1, .int r.2]) = true; rw [eqv_t2]; simp⟩
 ·rw [decide_eq_false h, List.any_eq_false]
  intro y hy
  obtain ⟨z, hz, rfl⟩ := List.mem_map.mp hy
  show ¬ PyData.eqv (.tuple [.int z.1, .int z.2]) (.tuple [.int r.1, .int r.2]) = true
  rw [eqv_t2, decide_eq_true_eq]
  rintro ⟨e1, e2⟩
  have ez : z = r := Prod.ext e1 e2
  subst ez
  exact h hz
theorem FirstDup.no {rs : List P2} (hn : rs.Nodup) {i : Nat} (h : FirstDup rs i) : False := by
 obtain ⟨_, r, h1, h2⟩ := h
 obtain ⟨j, hj⟩ := List.getElem?_of_mem h2
 have lj := (List.getElem?_eq_some_iff.mp hj).1
 rw [List.length_take] at lj
 rw [List.getElem?_take_of_lt (by omega)] at hj
 obtain ⟨g1, e1⟩ := List.getElem?_eq_some_iff.mp h1
 obtain ⟨g2, e2⟩ := List.getElem?_eq_some_iff.mp hj
 have := (List.getElem_inj (h₀ := g1) (h₁ := g2) hn).mp (e1.trans e2.symm)
 omega
theorem nodup_take {rs : List P2} {i : Nat} {r : P2} (hn : (rs.take i).Nodup) (hi : rs[i]? = some r) (h : r ∉ rs.take i) : (rs.take (i + 1)).Nodup := by
 rw [List.take_succ, hi]
 exact List.nodup_append.mpr ⟨hn, by simp, fun a ha b hb e => h (by simp at hb; rw [← hb, ← e]; exact ha)⟩
noncomputable def sp_csE (K : PySem.W.Frag) (C : Cz) : Sp := fun vs H Q E => ∃ (l : Addr) (qs : List Addr) (rs : List P2), vs = [.ref l] ∧ H l = some (.lst (qs.map V.ref)) ∧ R2At H qs rs ∧ (¬ (0 < rs.length ∧ rs.length ≤ 12) → E (.ref C.TooMany) none H) ∧
 (0 < rs.length → rs.length ≤ 12 → ∀ H', Ext H H' → (rs.Nodup → Q .non H') ∧ ∀ i dx, FirstDup rs i → H' dx = none → E (.ref C.NoSpot) (some dx) (upd H' dx (.xd [("at", .int (i : Int))])))
noncomputable def wOf (rs : List P2) (i : Nat) : List Int := [(rs.getD i (0, 0)).1, (rs.getD i (0, 0)).2]
noncomputable def PlQ (rs : List P2) (q : List Nat) : Prop := q.Perm (List.range rs.length) ∧ q.Pairwise fun a b => HT.lexLt (wOf rs b) (wOf rs a) = false
noncomputable def natsV (q : List Nat) : List V := (q.map fun i : Nat => (i : Int)).map V.int
theorem atV_range {n i : Nat} (h : i < n) : atV ((List.range n).map fun j : Nat => V.int (j : Int)) i = .int (i : Int) := by
 have e := atV_get (xs := (List.range n).map fun j : Nat => V.int (j : Int)) (i := i) (by simpa using h)
 rw [List.getElem?_map, List.getElem?_range h] at e
 exact (Option.some.inj e).symm
noncomputable def sp_place (K : PySem.W.Frag) (C : Cz) : Sp := fun vs H Q _ => ∃ (l : Addr) (qs : List Addr) (rs : List P2), vs = [.ref l] ∧ H l = some (.lst (qs.map V.ref)) ∧ R2At H qs rs ∧ rs.length ≤ 12 ∧ H C.lp_by_place = some (.tbl tg_by_place) ∧
 ∀ t H' q, Ext H H' → H t = none → PlQ rs q → H' t = some (.lst (natsV q)) → Q (.ref t) H'
theorem cut_from (xs : List V) (k : Nat) : cutV xs (some (k : Int)) none = xs.drop k := by
 unfold cutV
 rw [HT.sIx_nat, HT.sIx_none, List.take_of_length_le (by rw [List.length_drop]; omega)]
 by_cases h : k ≤ xs.length
 ·rw [Nat.min_eq_left h]
 ·rw [Nat.min_eq_right (by omega), List.drop_length, List.drop_eq_nil_of_le (by omega)]
noncomputable def HalvesAt (rs : List P2) (A B : List Int) : Prop := ∃ q, PlQ rs q ∧ A.Perm ((q.take (rs.length / 2)).map fun i : Nat => (i : Int)) ∧ B.Perm ((q.drop (rs.length / 2)).map fun i : Nat => (i : Int)) ∧ A.Pairwise (· ≤ ·) ∧ B.Pairwise (· ≤ ·)
noncomputable def sp_halvesE (K : PySem.W.Frag) (C : Cz) : Sp := fun vs H Q E => ∃ (l : Addr) (qs : List Addr) (rs : List P2), vs = [.ref l] ∧ H l = some (.lst (qs.map V.ref)) ∧ R2At H qs rs ∧ H C.lp_by_place = some (.tbl tg_by_place) ∧
 (¬ (0 < rs.length ∧ rs.length ≤ 12) → E (.ref C.TooMany) none H) ∧
 (0 < rs.length → rs.length ≤ 12 → ∀ H', Ext H H' → ∀ i dx, FirstDup rs i → H' dx = none → E (.ref C.NoSpot) (some dx) (upd H' dx (.xd [("at", .int (i : Int))]))) ∧
 (rs.length = 1 → ∀ H', Ext H H' → E (.ref C.NoLot) none H') ∧
 (2 ≤ rs.length → rs.length ≤ 12 → rs.Nodup → ∀ t a b A B H', Ext H H' → H' t = some (.tup [.ref a, .ref b]) → H a = none → H b = none → a ≠ b → H' a = some (.lst (A.map V.int)) → H' b = some (.lst (B.map V.int)) → HalvesAt rs A B → Q (.ref t) H')
noncomputable abbrev fdL (c : Addr) (n l : Int) : List (Key × V) := [(Sum.inr "cells", .ref c), (Sum.inr "at", .int n), (Sum.inr "left", .int l)]
theorem fd_cells (c : Addr) (n l : Int) : valV (fdL c n l) (Sum.inr "cells") = some (.ref c) := rfl
theorem fd_at (c : Addr) (n l : Int) : valV (fdL c n l) (Sum.inr "at") = some (.int n) := rfl
theorem fd_left (c : Addr) (n l : Int) : valV (fdL c n l) (Sum.inr "left") = some (.int l) := rfl
theorem fd_putat (c : Addr) (n l m : Int) : putK (fdL c n l) (Sum.inr "at") (.int m) = fdL c m l := rfl
theorem fd_putleft (c : Addr) (n l m : Int) : putK (fdL c n l) (Sum.inr "left") (.int m) = fdL c n m := rfl
noncomputable def FD (c : Addr) (b : Nat) (H : Hp) (p : Addr) : Prop := ∃ (ns : List Int) (n : Nat) (l : Int), H p = some (.dK (fdL c n l)) ∧ H c = some (.lst (ns.map V.int)) ∧ ns.length ≤ 63 ∧ n ≤ b
structure DX (c : Addr) (b : Nat) (p : Addr) (H H' : Hp) : Prop where
 feed : FD c b H' p
 keep : ∀ q o, q ≠ p → H q = some o → H' q = some o
theorem DX.trans {e : Addr} {a b : Nat} {p : Addr} {H H1 H2 : Hp} (x : DX e a p H H1) (y : DX e b p H1 H2) : DX e b p H H2 := ⟨y.feed, fun c o hc h => y.keep c o hc (x.keep c o hc h)⟩
theorem DX.refl {e : Addr} {b : Nat} {p : Addr} {H : Hp} (h : FD e b H p) : DX e b p H H := ⟨h, fun _ _ _ h => h⟩
theorem FD.ext {e : Addr} {b : Nat} {p : Addr} {H H' : Hp} (h : FD e b H p) (x : Ext H H') : FD e b H' p := by
 obtain ⟨ns, n, l, h1, h2, h3, h4⟩ := h
 exact ⟨ns, n, l, x _ _ h1, x _ _ h2, h3, h4⟩
theorem FD.upd {e : Addr} {b : Nat} {p q : Addr} {H : Hp} {o : HO} (h : FD e b H p) (hq : H q = none) : FD e b (L2.upd H q o) p := h.ext (Ext.upd hq)
theorem DX.ext {e : Addr} {b : Nat} {p : Addr} {H H1 H2 : Hp} (d : DX e b p H H1) (x : Ext H1 H2) : DX e b p H H2 := ⟨d.feed.ext x, fun q o hq e => x _ _ (d.keep q o hq e)⟩
theorem DX.upd {e : Addr} {b : Nat} {p q : Addr} {H H1 : Hp} {o : HO} (a : DX e b p H H1) (h : H1 q = none) : DX e b p H (L2.upd H1 q o) := a.ext (Ext.upd h)
theorem FD.mono {e : Addr} {a b : Nat} {p : Addr} {H : Hp} (h : FD e a H p) (hab : a ≤ b) : FD e b H p := by
 obtain ⟨ns, n, l, h1, h2, h3, h4⟩ := h
 exact ⟨ns, n, l, h1, h2, h3, by omega⟩
theorem DX.mono {e : Addr} {a b : Nat} {p : Addr} {H H' : Hp} (h : DX e a p H H') (hab : a ≤ b) : DX e b p H H' := ⟨h.feed.mono hab, h.keep⟩
theorem FD.ne {e : Addr} {b : Nat} {p t : Addr} {H : Hp} (h : FD e b H p) (ht : H t = none) : t ≠ p := by
 obtain ⟨ns, n, l, h1, _⟩ := h
 rintro rfl
 rw [h1] at ht
 cases ht
theorem FD.nc {e : Addr} {b : Nat} {p t : Addr} {H : Hp} (h : FD e b H p) (ht : H t = none) : t ≠ e := by
 obtain ⟨ns, n, l, h1, h2, _⟩ := h
 rintro rfl
 rw [h2] at ht
 cases ht
theorem FD.tup {e : Addr} {b : Nat} {H : Hp} {p q : Addr} {xs : List V} (f : FD e b H p) (h : H q = some (.tup xs)) : q ≠ p := by
 obtain ⟨ns, n, l, h1, _⟩ := f
 exact ne_of h h1 (by intro z; cases z)
theorem FD.lst {e : Addr} {b : Nat} {H : Hp} {p q : Addr} {xs : List V} (f : FD e b H p) (h : H q = some (.lst xs)) : q ≠ p := by
 obtain ⟨ns, n, l, h1, _⟩ := f
 exact ne_of h h1 (by intro z; cases z)
theorem FD.set {e : Addr} {b : Nat} {p D : Addr} {H : Hp} {o : HO} (f : FD e b H p) (h1 : D ≠ p) (h2 : D ≠ e) : FD e b (L2.upd H D o) p := by
 obtain ⟨ns, n, l, g1, g2, r⟩ := f
 exact ⟨ns, n, l, (upd_ne h1.symm).trans g1, (upd_ne h2.symm).trans g2, r⟩
theorem DX.set {e : Addr} {b b0 : Nat} {p D : Addr} {H H1 : Hp} {o : HO} (d : DX e b p H H1) (hD : H D = .none) (f : FD e b0 H p) : DX e b p H (L2.upd H1 D o) := ⟨d.feed.set (f.ne hD) (f.nc hD), fun q u hq e => by rw [upd_ne (ne_of_none e hD)]; exact d.keep q u hq e⟩
theorem DX.sqL {e : Addr} {b b0 : Nat} {p a : Addr} {H H1 : Hp} {K : PySem.W.Frag} {xs : List V} (d : DX e b p H H1) (f : FD e b0 H p) (h : SqL K H a xs) : SqL K H1 a xs := by
 have np : ∀ {o : HO}, H a = some o → (∀ kvs, o ≠ .dK kvs) → a ≠ p := fun {o} e ne z => by
  obtain ⟨_, _, _, h1, _⟩ := f
  rw [z, h1] at e
  exact ne _ (Option.some.inj e).symm
 rcases h with (h | ⟨o, h⟩) | h
 ·exact .inl (.inl (d.keep _ _ (np h (fun _ z => by cases z)) h))
 ·exact .inl (.inr ⟨o, d.keep _ _ (np h (fun _ z => by cases z)) h⟩)
 ·exact .inr h
theorem DX.none {e : Addr} {b : Nat} {p t : Addr} {H H' : Hp} (x : DX e b p H H') (h : H' t = none) : H t = none := by
 by_cases c : t = p
 ·obtain ⟨ns, n, l, h1, _⟩ := x.feed
  rw [c, h1] at h
  cases h
 ·cases q : H t with
  | none => rfl
  | some o =>
   rw [x.keep t o c q] at h
   cases h
noncomputable def sp_feed (K : PySem.W.Frag) : Sp := fun vs H Q _ => ∃ (a : Addr) (ns : List Int), vs = [.ref a] ∧ SqL K H a (ns.map V.int) ∧ ns.length ≤ 63 ∧ ∀ p c H', Ext H H' → H p = none → FD c 0 H' p → Q (.ref p) H'
noncomputable def sp_draw : Sp := fun vs H Q _ => ∃ (p : Addr) (m : Int) (c : Addr) (b : Nat), vs = [.ref p, .int m] ∧ FD c b H p ∧ b ≤ 1000000 ∧ 0 < m ∧ m ≤ 100000 ∧ ∀ r H', 0 ≤ r → r < m → DX c (b + 1) p H H' → Q (.int r) H'
noncomputable def sp_great : Sp := fun vs H Q _ => ∃ (p : Addr) (k : Nat) (c : Addr) (b : Nat), vs = [.ref p, .int k] ∧ FD c b H p ∧ b ≤ 100000 ∧ k ≤ 5 ∧ ∀ (r : Int) H', 0 ≤ r → r < 100000 ^ k → DX c (b + k) p H H' → Q (.int r) H'
noncomputable def sp_scale : Sp := fun vs H Q _ => ∃ (p c : Addr) (b : Nat), vs = [.ref p] ∧ FD c b H p ∧ b ≤ 10000 ∧ ∀ t m r u H', DX c (b + 25) p H H' → H' t = some (.tup [.int m, .int r, .int u]) → (1 ≤ m ∧ m ≤ 10 ^ 20) → (-(10 ^ 25) ≤ r ∧ r ≤ 10 ^ 25) → (-(10 ^ 25) ≤ u ∧ u ≤ 10 ^ 25) → Q (.ref t) H'
theorem atI_lt {xs : List Int} {r : Int} (h0 : 0 ≤ r) (h1 : r < xs.length) : ∃ x, atI (xs.map V.int) r = some (.int x) ∧ x ∈ xs := by
 obtain ⟨n, rfl⟩ := Int.eq_ofNat_of_zero_le h0
 have hn : n < xs.length := by omega
 exact ⟨xs[n], atI_nat (by rw [List.getElem?_map, List.getElem?_eq_getElem hn]; rfl), List.getElem_mem hn⟩
theorem atI_get {xs : List Int} {n : Nat} (h1 : n < xs.length) : ∃ x, atI (xs.map V.int) (n : Int) = some (.int x) ∧ some x = xs[n]? :=
 ⟨xs[n], atI_nat (by rw [List.getElem?_map, List.getElem?_eq_getElem h1]; rfl), (List.getElem?_eq_getElem h1).symm⟩
noncomputable def sp_spot : Sp := fun vs H Q _ => ∃ (p : Addr) (st : Int) (c : Addr) (b : Nat), vs = [.ref p, .int st] ∧ FD c b H p ∧ b ≤ 10000 ∧ 0 ≤ st ∧ st ≤ 5 ∧ ∀ t x y H', DX c (b + 2) p H H' → H' t = some (.tup [.int x, .int y]) → (0 ≤ x ∧ x ≤ 12) → (0 ≤ y ∧ y ≤ 12) → Q (.ref t) H'
noncomputable def dzX : List Int := [10, 9, 8, 5, 2, 1, 0, 1, 2, 5, 8, 9]
noncomputable def dzY : List Int := [5, 8, 9, 10, 9, 8, 5, 2, 1, 0, 1, 2]
noncomputable def DzOk (way : Int) (k : Nat) (r : P2) : Prop := if way = 0 then r = ((k : Int) % 4, (k : Int) / 4) else if way = 1 then some r.1 = dzX[k]? ∧ some r.2 = dzY[k]? else r.1 = k ∧ 0 ≤ r.2 ∧ r.2 ≤ 10
theorem DzOk.inj {way : Int} {i j : Nat} {r : P2} (hi : i < 12) (hj : j < 12) (h1 : DzOk way i r) (h2 : DzOk way j r) : i = j := by
 unfold DzOk at h1 h2
 split at h1
 ·rename_i c
  rw [if_pos c] at h2
  have := h1.symm.trans h2
  simp only [Prod.mk.injEq] at this
  omega
 ·rename_i c
  rw [if_neg c] at h2
  split at h1
  ·rename_i c2
   rw [if_pos c2] at h2
   have e1 := h1.1.symm.trans h2.1
   have e2 := h1.2.symm.trans h2.2
   have key : ∀ i j : Fin 12, dzX[i.val]? = dzX[j.val]? → dzY[i.val]? = dzY[j.val]? → i = j := by unfold dzX dzY; decide
   have := key ⟨i, hi⟩ ⟨j, hj⟩ e1 e2
   exact congrArg Fin.val this
  ·rename_i c2
   rw [if_neg c2] at h2
   omega
theorem DzOk.bd {way : Int} {i : Nat} {r : P2} (hi : i < 12) (h : DzOk way i r) : (0 ≤ r.1 ∧ r.1 ≤ 12) ∧ (0 ≤ r.2 ∧ r.2 ≤ 12) := by
 unfold DzOk at h
 split at h
 ·subst h
  dsimp only
  omega
 ·split at h
  ·have key : ∀ i : Fin 12, ∀ x, some x = dzX[i.val]? → 0 ≤ x ∧ x ≤ 12 := by
    intro i x hx
    have m := List.mem_of_getElem? hx.symm
    have bx : ∀ x ∈ dzX, 0 ≤ x ∧ x ≤ 12 := by unfold dzX; decide
    exact bx x m
   have key2 : ∀ i : Fin 12, ∀ x, some x = dzY[i.val]? → 0 ≤ x ∧ x ≤ 12 := by
    intro i x hx
    have m := List.mem_of_getElem? hx.symm
    have bx : ∀ x ∈ dzY, 0 ≤ x ∧ x ≤ 12 := by unfold dzY; decide
    exact bx x m
   exact ⟨key ⟨i, hi⟩ _ h.1, key2 ⟨i, hi⟩ _ h.2⟩
  ·omega
theorem R2At.drop {H : Hp} {qs : List Addr} {rs : List P2} (h : R2At H qs rs) (k : Nat) : R2At H (qs.drop k) (rs.drop k) := by
 refine ⟨by rw [List.length_drop, List.length_drop, h.1], fun i q z h1 h2 => ?_⟩
 rw [List.getElem?_drop] at h1 h2
 exact h.2 _ q z h1 h2
theorem R2At.append {H : Hp} {qs qs' : List Addr} {rs rs' : List P2} (h : R2At H qs rs) (h' : R2At H qs' rs') : R2At H (qs ++ qs') (rs ++ rs') := by
 refine ⟨by rw [List.length_append, List.length_append, h.1, h'.1], fun i q z h1 h2 => ?_⟩
 by_cases hi : i < qs.length
 ·rw [List.getElem?_append_left hi] at h1
  rw [List.getElem?_append_left (by rw [← h.1]; exact hi)] at h2
  exact h.2 i q z h1 h2
 ·rw [List.getElem?_append_right (by omega)] at h1
  rw [List.getElem?_append_right (by rw [← h.1]; omega), ← h.1] at h2
  exact h'.2 _ q z h1 h2
theorem R2At.one {H : Hp} {q : Addr} {r : P2} (h : H q = some (.tup [.int r.1, .int r.2])) : R2At H [q] [r] := ⟨rfl, fun i q' z h1 h2 => by
 match i, h1, h2 with
 | 0, h1, h2 => cases h1; cases h2; exact h⟩
theorem R2At.setL {H : Hp} {qs : List Addr} {R : List P2} {L : Addr} {xs ys : List V} (h : R2At H qs R) (hL : H L = some (.lst xs)) : R2At (upd H L (.lst ys)) qs R := ⟨h.1, fun i t v a b => by
 have h1 := h.2 i t v a b
 exact (upd_ne (ne_of h1 hL (by intro z; cases z))).trans h1⟩
theorem R2At.dx {e : Addr} {b : Nat} {p : Addr} {H H' : Hp} {qs : List Addr} {R : List P2} (h : R2At H qs R) {b0 : Nat} (f : FD e b0 H p) (d : DX e b p H H') : R2At H' qs R := ⟨h.1, fun i t v a c => d.keep _ _ (f.tup (h.2 i t v a c)) (h.2 i t v a c)⟩
theorem nodup_of_at {rs : List P2} {P : Nat → P2 → Prop} (h : ∀ i r, rs[i]? = some r → P i r) (inj : ∀ i j r, i < rs.length → j < rs.length → P i r → P j r → i = j) : rs.Nodup := by
 rw [List.nodup_iff_pairwise_ne, List.pairwise_iff_getElem]
 intro i j hi hj hij e
 have e1 : rs[i]? = some rs[i] := List.getElem?_eq_getElem hi
 have e2 : rs[j]? = some rs[i] := by rw [List.getElem?_eq_getElem hj, e]
 have := inj i j _ hi hj (h i _ e1) (h j _ e2)
 omega
theorem nodup_rot {α : Type} {l : List α} (h : l.Nodup) (k : Nat) : (l.drop k ++ l.take k).Nodup := by
 have : (l.drop k ++ l.take k).Perm l := by
  have := List.perm_append_comm (l₁ := l.drop k) (l₂ := l.take k)
  rwa [List.take_append_drop] at this
 exact this.nodup_iff.mpr h
noncomputable def sp_dozen : Sp := fun vs H Q _ => ∃ (p c : Addr) (b : Nat), vs = [.ref p] ∧ FD c b H p ∧ b ≤ 1000 ∧ ∀ D qs rs H', DX c (b + 20) p H H' → H D = none → H' D = some (.lst (qs.map V.ref)) → R2At H' qs rs → rs.Nodup → 10 ≤ rs.length → rs.length ≤ 12 → (∀ r ∈ rs, (0 ≤ r.1 ∧ r.1 ≤ 12) ∧ (0 ≤ r.2 ∧ r.2 ≤ 12)) → Q (.ref D) H'
theorem inD_rs (rs : List P2) (r : P2) : decide (Spec.countIn (t2d r) (rs.map t2d) ≠ 0) = decide (r ∈ rs) := by
 rw [← any_eqv_countIn _ _ (fun y hy => by obtain ⟨z, _, rfl⟩ := List.mem_map.mp hy; exact nomix_t2 z r)]
 rw [Bool.eq_iff_iff, List.any_eq_true, decide_eq_true_eq]
 constructor
 ·rintro ⟨y, hy, e⟩
  obtain ⟨z, hz, rfl⟩ := List.mem_map.mp hy
  have e' : PyData.eqv (.tuple [.int z.1, .int z.2]) (.tuple [.int r.1, .int r.2]) = true := e
  rw [eqv_t2, decide_eq_true_eq] at e'
  have : z = r := Prod.ext e'.1 e'.2
  rw [← this]
  exact hz
 ·intro h
  refine ⟨t2d r, List.mem_map.mpr ⟨r, h, rfl⟩, ?_⟩
  show PyData.eqv (.tuple [.int r.1, .int r.2]) (.tuple [.int r.1, .int r.2]) = true
  rw [eqv_t2, decide_eq_true_eq]
  exact ⟨rfl, rfl⟩
noncomputable def WBd (n : Int) (rs : List P2) : Prop := ∀ r ∈ rs, (0 ≤ r.1 ∧ r.1 ≤ n) ∧ (0 ≤ r.2 ∧ r.2 ≤ 12)
theorem WBd.snoc {n : Int} {rs : List P2} (h : WBd n rs) {r : P2} (hr : (0 ≤ r.1 ∧ r.1 ≤ n) ∧ (0 ≤ r.2 ∧ r.2 ≤ 12)) : WBd n (rs ++ [r]) := fun z hz => by
 rcases List.mem_append.mp hz with q | q
 ·exact h z q
 ·rw [List.mem_singleton] at q
  rw [q]
  exact hr
theorem WBd.mono {m n : Int} {rs : List P2} (h : WBd m rs) (hmn : m ≤ n) : WBd n rs := fun z hz => by
 have := h z hz
 omega
theorem nodup_snoc {α : Type} {rs : List α} (h : rs.Nodup) {r : α} (hr : r ∉ rs) : (rs ++ [r]).Nodup := List.nodup_append.mpr ⟨h, by simp, fun x hx y hy e => by
 rw [List.mem_singleton] at hy
 subst hy
 subst e
 exact hr hx⟩
noncomputable def sp_spots (K : PySem.W.Frag) : Sp := fun vs H Q _ => ∃ (p : Addr) (n0 m0 : Nat) (c : Addr) (b : Nat), vs = [.ref p, .int (n0 : Int), .int (m0 : Int)] ∧ FD c b H p ∧ b ≤ 500 ∧ 1 ≤ n0 ∧ n0 ≤ 6 ∧ n0 ≤ m0 ∧ m0 ≤ 12 ∧ ∀ D qs rs H', DX c (b + 60) p H H' → H D = none → H' D = some (.lst (qs.map V.ref)) → R2At H' qs rs → rs.Nodup → n0 ≤ rs.length → rs.length ≤ 12 → WBd 24 rs → Q (.ref D) H'
theorem four_ints {ys : List V} (l : ys.length = 4) (hv : ∀ v ∈ ys, ∃ x : Int, v = .int x ∧ 0 ≤ x ∧ x ≤ 7) : ∃ e0 e1 e2 e3 : Int, ys = [.int e0, .int e1, .int e2, .int e3] ∧ (0 ≤ e0 ∧ e0 ≤ 7) ∧ (0 ≤ e1 ∧ e1 ≤ 7) ∧ (0 ≤ e2 ∧ e2 ≤ 7) ∧ (0 ≤ e3 ∧ e3 ≤ 7) := by
 match ys, l with
 | [v1, v2, v3, v4], _ =>
  obtain ⟨e0, rfl, f0⟩ := hv v1 (by simp)
  obtain ⟨e1, rfl, f1⟩ := hv v2 (by simp)
  obtain ⟨e2, rfl, f2⟩ := hv v3 (by simp)
  obtain ⟨e3, rfl, f3⟩ := hv v4 (by simp)
  exact ⟨e0, e1, e2, e3, rfl, f0, f1, f2, f3⟩
theorem sc_bd {k m : Int} (h1 : -10 ≤ k) (h2 : k ≤ 50) (m1 : 1 ≤ m) (m2 : m ≤ 10 ^ 20) : -(10 ^ 21) ≤ k * m ∧ k * m ≤ 50 * 10 ^ 20 := by
 constructor
 ·have := Int.mul_le_mul_of_nonneg_right h1 (show 0 ≤ m by omega)
  omega
 ·have := Int.mul_le_mul_of_nonneg_right h2 (show 0 ≤ m by omega)
  omega
theorem sc_le {k l m r : Int} (h : k ≤ l) (m1 : 1 ≤ m) : k * m + r ≤ l * m + r := by
 have := Int.mul_le_mul_of_nonneg_right h (show 0 ≤ m by omega)
 omega
theorem sc_lt {k l m r : Int} (h : k < l) (m1 : 1 ≤ m) : k * m + r < l * m + r := by
 have := Int.mul_lt_mul_of_pos_right h (show 0 < m by omega)
 omega
theorem sc_inj {k l m r : Int} (m1 : 1 ≤ m) (h : k * m + r = l * m + r) : k = l := by
 have : k * m = l * m := by omega
 exact Int.eq_of_mul_eq_mul_right (by omega) this
theorem nodup_sc {rs : List P2} (h : rs.Nodup) {m r u : Int} (m1 : 1 ≤ m) : (rs.map fun z => (z.1 * m + r, z.2 * m + u)).Nodup := by
 rw [List.nodup_iff_pairwise_ne] at h ⊢
 rw [List.pairwise_map]
 refine h.imp fun {a b} ne e => ne ?_
 simp only [Prod.mk.injEq] at e
 exact Prod.ext (sc_inj m1 e.1) (sc_inj m1 e.2)
noncomputable def sp_world (K : PySem.W.Frag) : Sp := fun vs H Q _ => ∃ (p : Addr) (n0 m0 : Nat) (c : Addr) (b : Nat), vs = [.ref p, .int (n0 : Int), .int (m0 : Int)] ∧ FD c b H p ∧ b ≤ 400 ∧ 1 ≤ n0 ∧ n0 ≤ 6 ∧ n0 ≤ m0 ∧ m0 ≤ 12 ∧
 ∀ t bx l x y u v qs rs H', DX c (b + 90) p H H' → H' t = some (.tup [.ref bx, .ref l]) → SpOk H' bx l x y u v qs rs → n0 ≤ rs.length → (-(10 ^ 26) ≤ x ∧ u ≤ 10 ^ 26) → (-(10 ^ 26) ≤ y ∧ v ≤ 10 ^ 26) → Q (.ref t) H'
theorem rIsiXT_3 {K : PySem.W.Frag} {a C D E F tp : Addr} {od : Option Addr} {b : Bool} {H : Hp} {Q : VK} (h1 : H a = some (excD a C od)) (h2 : ExcB K C) (h0 : H tp = some (.tup [.ref D, .ref E, .ref F])) (h3 : PySem.W.kitAny K (.ref C) [.ref D, .ref E, .ref F] = some b) (h4 : Q (.bl b) H) : rIsiXT K [.ref a, .ref tp] H Q := ⟨a, C, tp, od, [D, E, F], b, rfl, h1, h2, h0, h3, h4⟩
noncomputable def ToldAt (H H' : Hp) (rs : List P2) (t : Addr) : Prop := (¬ (0 < rs.length ∧ rs.length ≤ 12) ∧ H' t = some (.tup [.str "many", .bl false, .bl true])) ∨ ((0 < rs.length ∧ rs.length ≤ 12) ∧ ∃ i, FirstDup rs i ∧ H' t = some (.tup [.str "spot", .bl false, .int (i : Int)])) ∨
 (rs.length = 1 ∧ H' t = some (.tup [.str "lot", .bl false, .bl true])) ∨ ((2 ≤ rs.length ∧ rs.length ≤ 12 ∧ rs.Nodup) ∧ ∃ (u a b : Addr) (A B : List Int), H' t = some (.tup [.str "halves", .ref u]) ∧ H' u = some (.tup [.ref a, .ref b]) ∧ H a = none ∧ H b = none ∧ a ≠ b ∧ H' a = some (.lst (A.map V.int)) ∧ H' b = some (.lst (B.map V.int)) ∧ HalvesAt rs A B)
noncomputable def sp_told (K : PySem.W.Frag) (C : Cz) : Sp := fun vs H Q _ => ∃ (l : Addr) (qs : List Addr) (rs : List P2), vs = [.ref l] ∧ H l = some (.lst (qs.map V.ref)) ∧ R2At H qs rs ∧ H C.lp_by_place = some (.tbl tg_by_place) ∧ ∀ t H', Ext H H' → ToldAt H H' rs t → Q (.ref t) H'
theorem eqvAll_rs : ∀ rs : List P2, PyData.eqvAll (rs.map t2d) (rs.map t2d) = true
 | [] => by simp [PyData.eqvAll]
 | c :: cs => by
  have := eqvAll_rs cs
  simp only [List.map_cons, PyData.eqvAll, this, Bool.and_true]
  simp [t2d, PyData.eqv, PyData.eqvAll]
theorem eqv_rs (rs : List P2) : PyData.eqv (.list (rs.map t2d)) (.list (rs.map t2d)) = true := by
 simp only [PyData.eqv, eqvAll_rs]
theorem sorted_uniq {x y : List Int} (p : x.Perm y) (sx : x.Pairwise (· ≤ ·)) (sy : y.Pairwise (· ≤ ·)) : x = y := List.Perm.eq_of_pairwise (fun a b _ _ h1 h2 => by omega) sx sy p
theorem HalvesAt.all {rs : List P2} {A B : List Int} (h : HalvesAt rs A B) : (A ++ B).Perm ((List.range rs.length).map fun i : Nat => (i : Int)) ∧ A.length = rs.length / 2 ∧ B.length = rs.length - rs.length / 2 ∧ A.Pairwise (· ≤ ·) ∧ B.Pairwise (· ≤ ·) ∧ (∀ a ∈ A, ∃ i : Nat, a = i ∧ i < rs.length) ∧ (∀ a ∈ B, ∃ i : Nat, a = i ∧ i < rs.length) ∧
  ∀ i j : Nat, (i : Int) ∈ A → (j : Int) ∈ B → HT.lexLt (wOf rs j) (wOf rs i) = false := by
 obtain ⟨q, ⟨pm, pw⟩, pA, pB, sA, sB⟩ := h
 have lq : q.length = rs.length := by have := pm.length_eq; rwa [List.length_range] at this
 have lt : ∀ i ∈ q, i < rs.length := fun i hi => by simpa using pm.mem_iff.mp hi
 have inA : ∀ a ∈ A, ∃ i : Nat, a = i ∧ i ∈ q.take (rs.length / 2) := fun a ha => by
  obtain ⟨i, hi, rfl⟩ := List.mem_map.mp (pA.mem_iff.mp ha)
  exact ⟨i, rfl, hi⟩
 have inB : ∀ a ∈ B, ∃ i : Nat, a = i ∧ i ∈ q.drop (rs.length / 2) := fun a ha => by
  obtain ⟨i, hi, rfl⟩ := List.mem_map.mp (pB.mem_iff.mp ha)
  exact ⟨i, rfl, hi⟩
 refine ⟨?_, ?_, ?_, sA, sB, fun a ha => ?_, fun a ha => ?_, fun i j hi hj => ?_⟩
 ·refine (pA.append pB).trans ?_
  rw [← List.map_append, List.take_append_drop]
  exact pm.map _
 ·rw [pA.length_eq, List.length_map, List.length_take]
  omega
 ·rw [pB.length_eq, List.length_map, List.length_drop]
  omega
 ·obtain ⟨i, e, hi⟩ := inA a ha
  exact ⟨i, e, lt i (List.mem_of_mem_take hi)⟩
 ·obtain ⟨i, e, hi⟩ := inB a ha
  exact ⟨i, e, lt i (List.mem_of_mem_drop hi)⟩
 ·obtain ⟨i', e1, hi'⟩ := inA _ hi
  obtain ⟨j', e2, hj'⟩ := inB _ hj
  have : i' = i := by omega
  subst this
  have : j' = j := by omega
  subst this
  rw [← List.take_append_drop (rs.length / 2) q] at pw
  exact (List.pairwise_append.mp pw).2.2 i' hi' j' hj'
noncomputable def intsD (ns : List Int) : PyData := .list (ns.map PyData.int)
theorem rdy_intsL {K : PySem.W.Frag} {H : Hp} {D : Addr} {ns : List Int} (e : H D = some (.lst (ns.map V.int))) : Rdy K H (.ref D) (intsD ns) := by
 refine .lst (SqL.of e) ?_
 clear e
 induction ns with
 | nil => exact .nil
 | cons a q ih => exact .cons (.int _) ih
theorem lay_intsL : ∀ q : List Int, PyData.canLayAll0 (q.map PyData.int) = true ∧ PyData.depthAll (q.map PyData.int) ≤ 1
 | [] => ⟨rfl, by simp [PyData.depthAll]⟩
 | c :: cs => by
  obtain ⟨a, b⟩ := lay_intsL cs
  constructor
  ·simp [PyData.canLayAll0, PyData.canLay0] at a ⊢
   exact a
  ·simp [PyData.depthAll, PyData.depth] at b ⊢
   omega
theorem shaped_intsL (q : List Int) : SeqAt.shaped (intsD q) = true := by
 obtain ⟨a, b⟩ := lay_intsL q
 unfold SeqAt.shaped intsD
 rw [Bool.and_eq_true, decide_eq_true_eq]
 exact ⟨by simp only [PyData.canLay0]; exact a, by simp only [PyData.depth]; omega⟩
theorem eqv_intsL (q : List Int) : PyData.eqv (intsD q) (intsD q) = true := by
 unfold intsD
 rw [eqv_ints, decide_eq_true rfl]
theorem any_rep (n : Nat) : (List.replicate n false).any id = false := by simp
noncomputable def gH (H : Hp) (v : V) : List Int := match v with
 | .ref t => (match H t with
  | some (.tup [.int a, .int b]) => [a, b]
  | _ => [])
 | _ => []
theorem take_one {α : Type} {l : List α} {i : Nat} {x : α} (h : l[i]? = some x) : l.take (i + 1) = l.take i ++ [x] := by rw [List.take_add_one, h]; rfl
noncomputable def atQ (qs : List Addr) (i : Int) : V := .ref (qs.getD i.toNat 0)
theorem pl_of {K : PySem.W.Frag} {H H' : Hp} {qs : List Addr} {rs : List P2} (x : Ext H H') (hr : R2At H qs rs) {i : Nat} (h : i < rs.length) : gH H (atQ qs (i : Int)) = wOf rs i ∧ (∃ t, atQ qs (i : Int) = .ref t ∧ SqT K H' t ((gH H (atQ qs (i : Int))).map V.int)) := by
 obtain ⟨r', hr1⟩ : ∃ r', rs[i]? = some r' := ⟨_, List.getElem?_eq_getElem h⟩
 obtain ⟨q, hq⟩ : ∃ q, qs[i]? = some q := ⟨_, List.getElem?_eq_getElem (by rw [hr.1]; exact h)⟩
 have e := hr.2 i q r' hq hr1
 have g : gH H (atQ qs (i : Int)) = wOf rs i := by
  unfold gH atQ wOf
  rw [Int.toNat_natCast, List.getD_eq_getElem?_getD, hq, List.getD_eq_getElem?_getD, hr1]
  dsimp only [Option.getD]
  rw [e]
 refine ⟨g, q, by unfold atQ; rw [Int.toNat_natCast, List.getD_eq_getElem?_getD, hq]; rfl, ?_⟩
 rw [g]
 refine SqT.of ?_
 rw [x _ _ e]
 unfold wOf
 rw [List.getD_eq_getElem?_getD, hr1]
 rfl
noncomputable def sp_right (K : PySem.W.Frag) (C : Cz) : Sp := fun vs H Q _ => ∃ (l : Addr) (qs : List Addr) (rs : List P2), vs = [.ref l] ∧ H l = some (.lst (qs.map V.ref)) ∧ R2At H qs rs ∧ (2 ≤ rs.length ∧ rs.length ≤ 12 ∧ rs.Nodup) ∧ H C.lp_by_place = some (.tbl tg_by_place) ∧ ∀ H', Ext H H' → Q (.bl true) H'
noncomputable def tw (rs : List P2) (at' : Nat) (r : P2) : List P2 := rs.take at' ++ [r] ++ rs.drop at'
theorem tw_dup {rs : List P2} (nd : rs.Nodup) {one at' : Nat} {r : P2} (h1 : rs[one]? = some r) (l1 : one < at') (l2 : at' ≤ rs.length) : FirstDup (tw rs at' r) at' := by
 have lt : (rs.take at').length = at' := by rw [List.length_take]; omega
 have e : (tw rs at' r).take at' = rs.take at' := by
  unfold tw
  rw [List.append_assoc, List.take_append_of_le_length (by omega), List.take_of_length_le (by omega)]
 refine ⟨by rw [e]; exact (List.take_sublist at' rs).nodup nd, r, ?_, ?_⟩
 ·unfold tw
  rw [List.append_assoc, List.getElem?_append_right (by omega), lt, Nat.sub_self]
  rfl
 ·rw [e]
  exact List.mem_of_getElem? (i := one) (by rw [List.getElem?_take_of_lt l1]; exact h1)
theorem tw_len {rs : List P2} {at' : Nat} {r : P2} (l2 : at' ≤ rs.length) : (tw rs at' r).length = rs.length + 1 := by
 unfold tw
 rw [List.length_append, List.length_append, List.length_take, List.length_drop]
 show min at' rs.length + 1 + _ = _
 omega
theorem R2At.none {H : Hp} : R2At H [] [] := ⟨rfl, fun i q z a => by simp at a⟩
noncomputable def manyD : PyData := .tuple [.str "many", .bool false, .bool true]
noncomputable def lotD : PyData := .tuple [.str "lot", .bool false, .bool true]
noncomputable def spotD (i : Int) : PyData := .tuple [.str "spot", .bool false, .int i]
theorem rdy_many {K : PySem.W.Frag} {H : Hp} {t : Addr} (h : H t = some (.tup [.str "many", .bl false, .bl true])) : Rdy K H (.ref t) manyD := .tup (SqT.of h) (.cons (.str _) (.cons (.bl _) (.cons (.bl _) .nil)))
theorem rdy_lot {K : PySem.W.Frag} {H : Hp} {t : Addr} (h : H t = some (.tup [.str "lot", .bl false, .bl true])) : Rdy K H (.ref t) lotD := .tup (SqT.of h) (.cons (.str _) (.cons (.bl _) (.cons (.bl _) .nil)))
theorem rdy_spot {K : PySem.W.Frag} {H : Hp} {t : Addr} {i : Int} (h : H t = some (.tup [.str "spot", .bl false, .int i])) : Rdy K H (.ref t) (spotD i) := .tup (SqT.of h) (.cons (.str _) (.cons (.bl _) (.cons (.int _) .nil)))
theorem so3 : PyData.strOk "many" = true := by decide +kernel
theorem so4 : PyData.strOk "spot" = true := by decide +kernel
theorem so5 : PyData.strOk "lot" = true := by decide +kernel
theorem sh_many : SeqAt.shaped manyD = true := by simp only [manyD, SeqAt.shaped, PyData.canLay0, PyData.canLayAll0, PyData.depth, PyData.depthAll, so3] <;> decide
theorem sh_lot : SeqAt.shaped lotD = true := by simp only [lotD, SeqAt.shaped, PyData.canLay0, PyData.canLayAll0, PyData.depth, PyData.depthAll, so5] <;> decide
theorem sh_spot (i : Int) : SeqAt.shaped (spotD i) = true := by simp only [spotD, SeqAt.shaped, PyData.canLay0, PyData.canLayAll0, PyData.depth, PyData.depthAll, so4] <;> decide
theorem eq_many : PyData.eqv manyD manyD = true := by simp [manyD, PyData.eqv, PyData.eqvAll]
theorem eq_lot : PyData.eqv lotD lotD = true := by simp [lotD, PyData.eqv, PyData.eqvAll]
theorem eq_spot (i : Int) : PyData.eqv (spotD i) (spotD i) = true := by simp [spotD, PyData.eqv, PyData.eqvAll]
noncomputable def sqs (n : Nat) : List P2 := (List.range n).map fun k : Nat => ((k : Int), (k : Int) * (k : Int))
theorem sqs_len (n : Nat) : (sqs n).length = n := by simp [sqs]
theorem sqs_nd (n : Nat) : (sqs n).Nodup := by
 unfold sqs
 rw [List.nodup_iff_pairwise_ne, List.pairwise_map]
 refine List.nodup_range.imp fun {a b} ne e => ne ?_
 simp only [Prod.mk.injEq] at e
 omega
theorem sqs_succ (n : Nat) : sqs (n + 1) = sqs n ++ [((n : Int), (n : Int) * (n : Int))] := by simp [sqs, List.range_succ]
theorem FirstDup.le {rs : List P2} {i j : Nat} (h : FirstDup rs i) (g : FirstDup rs j) : i ≤ j := by
 rcases Nat.lt_or_ge j i with l | l
 ·exfalso
  obtain ⟨nd, _⟩ := h
  obtain ⟨_, r, h1, h2⟩ := g
  have e : (rs.take i).take (j + 1) = rs.take j ++ [r] := by
   rw [List.take_take, Nat.min_eq_left l]
   exact take_one h1
  have := (List.take_sublist (j + 1) (rs.take i)).nodup nd
  rw [e] at this
  exact (List.nodup_append.mp this).2.2 r h2 r (List.mem_singleton.mpr rfl) rfl
 ·exact l
theorem ToldAt.many {H H' : Hp} {rs : List P2} {t : Addr} (td : ToldAt H H' rs t) (n : ¬ (0 < rs.length ∧ rs.length ≤ 12)) : H' t = some (.tup [.str "many", .bl false, .bl true]) := by
 rcases td with ⟨_, e⟩ | ⟨g, _⟩ | ⟨g, _⟩ | ⟨⟨g1, g2, _⟩, _⟩
 ·exact e
 ·exact absurd g n
 ·exact absurd ⟨by omega, by omega⟩ n
 ·exact absurd ⟨by omega, by omega⟩ n
theorem ToldAt.lot {H H' : Hp} {rs : List P2} {t : Addr} (td : ToldAt H H' rs t) (n : rs.length = 1) : H' t = some (.tup [.str "lot", .bl false, .bl true]) := by
 have nd : rs.Nodup := by
  match rs, n with
  | [r], _ => simp
 rcases td with ⟨g, e⟩ | ⟨_, i, fd, _⟩ | ⟨_, e⟩ | ⟨⟨g1, g2, _⟩, _⟩
 ·exact absurd ⟨by omega, by omega⟩ g
 ·exact (fd.no nd).elim
 ·exact e
 ·omega
theorem ToldAt.spot {H H' : Hp} {rs : List P2} {t : Addr} (td : ToldAt H H' rs t) (n : rs.length ≤ 12) (n2 : 2 ≤ rs.length) {i : Nat} (fd : FirstDup rs i) : H' t = some (.tup [.str "spot", .bl false, .int (i : Int)]) := by
 rcases td with ⟨g, e⟩ | ⟨_, j, f2, e⟩ | ⟨g, _⟩ | ⟨⟨_, _, nd⟩, _⟩
 ·exact absurd ⟨by omega, by omega⟩ g
 ·rw [Nat.le_antisymm (fd.le f2) (f2.le fd)]
  exact e
 ·omega
 ·exact (fd.no nd).elim
noncomputable def sp_law (K : PySem.W.Frag) (tp : Addr) : Sp := fun vs H Q _ => ∃ (a : Addr) (ns : List Int), vs = [.ref a] ∧ SqL K H a (ns.map V.int) ∧ ns.length ≤ 63 ∧ H tp = some (.tbl tg_by_place) ∧ ∀ H', Q (.bl true) H'
end LW
namespace LW
open PySem L2 MA PyProof.Rows
section
variable {P : Program} {w : World} {K : PySem.W.Frag} {mg : Str → Option Value} {base : Heap}
theorem sc_check_count : FnScope ["spots"] ["spots"] (defScope s_check_count) := ⟨rfl, rfl, rfl, by decide +kernel, rfl, by decide +kernel, by decide +kernel⟩
set_option maxHeartbeats 0 in
theorem ok_check_count {C : Cz} {f : Addr} {fd : FuncData} (F : Fun K "check_count" "check_count" s_check_count f fd) (T : Txt P K mg C)  : FnOk P w K mg base (CXE P w) 1 f fd ["spots"] (sp_check_countE C) := by
 refine okE F (k := 0) sc_check_count (fun vs H Q E h => ?_) (fun cdv A outer s H vs Q E hr h => ?_)
 ·obtain ⟨l, xs, rfl, _⟩ := h
  rfl
 ·obtain ⟨l, xs, rfl, h⟩ := h
  refine' ⟨_, ?main, ?rest⟩
  case main =>
   refine' pss_one ?c1
   case' c1 => refine' ps_if ?c2 ?c3 ?c4
   case' c2 => refine' PW.pt ?c5
   case' c5 => refine' pw_or ?c6 ?c7
   case' c6 => refine' pt_cmpF op_eqI ?c8 pe_int (nomark _)
   case' c8 => refine' pe_callB call_lenF (by rfl) T.b_len PySem.boot_len ?c9
   case' c9 => exact (pa_cons (pvF 0) pa_nil)
   case' c7 => refine' pw_or1 ?c10
   case' c10 => refine' pt_cmpF (OpR.f0 op_gt) ?c11 (pe_globI rfl T.n_MOST_SPOTS) (nomark _)
   case' c11 => refine' pe_callB call_lenF (by rfl) T.b_len PySem.boot_len ?c12
   case' c12 => exact (pa_cons (pvF 0) pa_nil)
   case' c3 => refine' pss_one ?c13
   case' c13 => refine' ps_raise (K := K) rfl madeE T.x_TooMany rfl T.g_TooMany ?c14
   case' c14 => exact (pa_cons pe_str pa_nil)
   case c4 => exact pss_nil
  case rest =>
   obtain ⟨hl, h⟩ := h
   simp only [L2.start, List.map_cons, List.map_nil, List.length_cons, List.length_nil, Nat.reduceAdd, Nat.reduceSub, List.replicate_succ, List.replicate_zero, List.cons_append, List.nil_append, List.append_nil]
   o_head ⟨hl⟩
   rcases h with ⟨h0, h12, h⟩ | ⟨hn, h⟩
   ·rw [if_neg (by omega), if_neg (by omega)]
    exact h
   ·by_cases z : xs.length = 0
    ·rw [if_pos (by omega)]
     exact ⟨by decide, h⟩
    ·rw [if_neg (by omega), if_pos (by omega)]
     exact ⟨by decide, h⟩
end
end LW
namespace LW
open PySem L2 MA PyProof.Rows
section
variable {P : Program} {w : World} {K : PySem.W.Frag} {mg : Str → Option Value} {base : Heap}
theorem sc_check_spots : FnScope ["spots", "number", "spot"] ["spots"] (defScope s_check_spots) := ⟨rfl, rfl, rfl, by decide +kernel, rfl, by decide +kernel, by decide +kernel⟩
set_option maxHeartbeats 0 in
theorem ok_check_spots {C : Cz} {f : Addr} {fd : FuncData} (F : Fun K "check_spots" "check_spots" s_check_spots f fd) (T : Txt P K mg C) (F_check_count : FnB P w K mg base (CXE P w) 1 "check_count" ["spots"] (sp_check_countE C)) : FnOk P w K mg base (CXE P w) 2 f fd ["spots"] (sp_csE K C) := by
 refine okE F (k := 1) sc_check_spots (fun vs H Q E h => ?_) (fun cdv A outer s H vs Q E hr h => ?_)
 ·obtain ⟨l, qs, rs, rfl, _⟩ := h
  rfl
 ·obtain ⟨l, qs, rs, rfl, h⟩ := h
  refine' ⟨_, ?main, ?rest⟩
  case main =>
   refine' pss_cons ?c1 ?c2
   case' c1 => refine' ps_expr ?c3
   case' c3 => refine' pe_fn F_check_count (hr.mono (by decide)) rfl passE ?c4
   case' c4 => exact (pa_cons (pvF 0) pa_nil)
   case' c2 => refine' pss_one ?c5
   case' c5 => refine' ps_for ?c6 ?c7 ?c8 ?c9 ?c10
   case c6 => exact PassesOwn.leaving
   case c7 => exact rfl
   case' c8 => refine' pi_enum (K := K) rfl rfl T.b_enumerate ?c11
   case' c11 => exact (pa_cons (pvF 0) pa_nil)
   case' c9 => refine' pg_F (n := 2) rfl ?c12
   case' c12 => refine' pgs_consF (pg_name (i := 1) sc_check_spots.nd rfl (Or.inl rfl)) ?c13
   case' c13 => exact (pgs_consF (pg_name (i := 2) sc_check_spots.nd rfl (Or.inl rfl)) pgs_nilF)
   case' c10 => refine' pss_one ?c14
   case' c14 => refine' ps_if ?c15 ?c16 ?c17
   case' c15 => refine' pt_cmpF (op_inDK (K := K) rfl (hu65 hr)) (pvF 2) ?c18 (by with_unfolding_all rfl)
   case' c18 => exact (pe_slice sl_F (pvF 0) po_none (po_some (pvF 1)))
   case' c16 => refine' pss_one ?c19
   case' c19 => refine' ps_raiseN (K := K) rfl madeN T.n_NoSpot T.kp_NoSpot rfl T.g_NoSpot T.b_super hr ?c20
   case' c20 => exact (pa_cons (pvF 1) pa_nil)
   case c17 => exact pss_nil
  case rest =>
   obtain ⟨sp, at_, hT, h⟩ := h
   have lq : (qs.map V.ref).length = rs.length := by rw [List.length_map, at_.1]
   simp only [L2.start, List.map_cons, List.map_nil, List.length_cons, List.length_nil, Nat.reduceAdd, Nat.reduceSub, List.replicate_succ, List.replicate_zero, List.cons_append, List.nil_append, List.append_nil]
   o_head ⟨sp_check_countE⟩
   by_cases hn : 0 < rs.length ∧ rs.length ≤ 12
   rotate_left
   ·exact ⟨_, sp, .inr ⟨by rw [lq]; exact hn, hT hn⟩⟩
   obtain ⟨n0, n12⟩ := hn
   replace h := h n0 n12
   refine ⟨_, sp, .inl ⟨by rw [lq]; exact n0, by rw [lq]; exact n12, ?_⟩⟩
   refine tfor_enum (fun a' H1 => a' = l ∧ H1 = H) ?_ ?_
   ·intro R hR
    walk_at "RD"
    exact hR _ _ ⟨rfl, rfl⟩
   ·rintro _ _ ⟨rfl, rfl⟩
    refine ⟨qs.map V.ref, fun i σ H' => ∃ o2 o3 : Option V, σ = [some (.ref _), o2, o3] ∧ Ext _ H' ∧ (rs.take i).Nodup, ⟨_, _, rfl, .refl _, by simp⟩, ?_, ?_, ?_⟩
    ·rintro i σ H' _ ⟨o2, o3, rfl, x', _⟩
     exact SqL.of (x' _ _ sp)
    ·rintro i w1 t σ H' hi ⟨o2, o3, rfl, x', nd⟩ ht
     obtain ⟨q, hq, rfl⟩ := refs_get hi
     obtain ⟨r, hr1, hr2⟩ := at_.at hq
     have xt := x'.then (o := .tup [.int (i : Int), .ref q]) ht
     have et := upd_same (H := H') (a := t) (o := .tup [.int (i : Int), .ref q])
     generalize upd H' t (.tup [.int (i : Int), .ref q]) = H2 at xt et ⊢
     o_head ⟨gSeqF, gCons, gNil, et, xt _ _ sp⟩
     rw [cut_to]
     refine fun s1 h1 => ?_
     have x4 := xt.then (o := .lst ((qs.map V.ref).take i)) h1
     refine ⟨t2d r, (rs.take i).map t2d, rdy_t2 (upd_f h1 (xt _ _ hr2)), .lst (xs := (qs.take i).map V.ref) (SqL.of ?_) (rdy_rs ((at_.ext x4).take i)), shaped_t2 r, shaped_rs _, ?_, ?_⟩
     ·rw [upd_same, List.map_take]
     ·intro y hy
      obtain ⟨z', _, rfl⟩ := List.mem_map.mp hy
      exact nomix_t2 z' r
     ·rw [mem_before]
      by_cases hm : r ∈ rs.take i
      ·rw [decide_eq_true hm]
       walk_at "RD"
       exact fun dx hdx => (h _ x4).2 i dx ⟨nd, r, hr1, hm⟩ hdx
      ·rw [decide_eq_false hm]
       walk_at "RD"
       exact ⟨x4, nodup_take nd hr1 hm⟩
    ·rintro σ H' ⟨o2, o3, rfl, x', nd⟩
     rw [lq, List.take_length] at nd
     exact (h _ x').1 nd
end
end LW
namespace LW
open PySem L2 MA PyProof.Rows
section
variable {P : Program} {w : World} {K : PySem.W.Frag} {mg : Str → Option Value} {base : Heap}
theorem sc_by_place : FnScope ["spots"] ["spots"] (defScope s_by_place) := ⟨rfl, rfl, rfl, by decide +kernel, rfl, by decide +kernel, by decide +kernel⟩
set_option maxHeartbeats 0 in
theorem ok_by_place {C : Cz} {f : Addr} {fd : FuncData} (F : Fun K "by_place" "by_place" s_by_place f fd) (T : Txt P K mg C) (L_by_place : LamF K f C.lc_by_place) (B_by_place : LamB mg base C.lc_by_place C.lp_by_place)  : FnOk P w K mg base (CXE P w) 2 f fd ["spots"] (sp_place K C) := by
 refine okLN F L_by_place (k := 1) sc_by_place (fun vs H Q E h => ?_) (fun A outer s H vs Q E hr h => ?_)
 ·obtain ⟨l, qs, rs, rfl, _⟩ := h
  rfl
 ·obtain ⟨l, qs, rs, rfl, h⟩ := h
  refine' ⟨_, ?main, ?rest⟩
  case main =>
   refine' pss_one ?c1
   case' c1 => refine' ps_ret ?c2
   case' c2 => refine' pe_sortKT (K := K) (tag := tg_by_place) (N := ["number", "spots"]) (js := [0]) rfl rfl (by rfl) T.b_sorted boot_sorted hr B_by_place rfl rfl (CScope.of_ok (dsc := defScope s_by_place) (N0 := ["spots"]) (N := ["number", "spots"]) (k := 1) (js := [0]) rfl rfl (by decide +kernel)) rfl (by decide +kernel) rfl rfl (fun _ _ _ _ _ => rfl) rfl ?c3 ?c4 rfl rfl
   case' c3 => refine' pe_callTy call_rng1 (by rfl) T.b_range boot_range ?c5
   case' c5 => refine' pa_cons ?c6 pa_nil
   case' c6 => refine' pe_callB call_lenF (by rfl) T.b_len PySem.boot_len ?c7
   case' c7 => exact (pa_cons (pvF 0) pa_nil)
   case' c4 => intro _ _ _ _ _ _ _; exact (pe_ix ix_F (pvF 1) (pvF 0) (fun _ _ => rfl))
  case rest =>
   obtain ⟨hl, hr, n12, tb, h⟩ := h
   have lq : (qs.map V.ref).length = rs.length := by rw [List.length_map, hr.1]
   simp only [L2.start, List.map_cons, List.map_nil, List.length_cons, List.length_nil, Nat.reduceAdd, Nat.reduceSub, List.replicate_succ, List.replicate_zero, List.cons_append, List.nil_append, List.append_nil]
   o_head ⟨hl, lq⟩
   refine ⟨rs.length, rfl, by omega, fun r hr' => ?_⟩
   have x2 := Ext.upd (o := .rng 0 (rs.length : Int)) hr'
   have er := upd_same (H := H) (a := r) (o := .rng 0 (rs.length : Int))
   generalize upd H r (.rng 0 (rs.length : Int)) = H2 at x2 er ⊢
   refine ⟨r, rfl, (List.range rs.length).map fun j : Nat => V.int (j : Int), .inr ⟨_, er, rfl⟩, by rw [List.length_map, List.length_range]; omega, fun v => match v with | .int i => wOf rs i.toNat | _ => [], ⟨1, fun x hx => ?_⟩, x2 _ _ tb, ?_, ?_⟩
   ·obtain ⟨j, _, rfl⟩ := List.mem_map.mp hx
    rfl
   ·intro H3 x x3 hx
    obtain ⟨j, hj, rfl⟩ := List.mem_map.mp hx
    have lj : j < rs.length := by simpa using hj
    obtain ⟨r', hr1⟩ : ∃ r', rs[j]? = some r' := ⟨_, List.getElem?_eq_getElem lj⟩
    obtain ⟨q, hq⟩ : ∃ q, qs[j]? = some q := ⟨_, List.getElem?_eq_getElem (by rw [hr.1]; exact lj)⟩
    have eq := x3 _ _ (x2 _ _ (hr.2 j q r' hq hr1))
    dsimp only
    rw [x3 _ _ (x2 _ _ hl), seqOf_l, optK_some, atI_nat (j := j) (v := V.ref q) (by rw [List.getElem?_map, hq]; rfl), optK_some]
    refine ⟨.refl _, q, rfl, ?_⟩
    rw [Int.toNat_natCast, eq]
    unfold wOf
    rw [List.getD_eq_getElem?_getD, hr1]
    rfl
   ·intro D H3 q x3 hD hq eD
    obtain ⟨pm, pw⟩ := hq
    rw [List.length_map, List.length_range] at pm
    have lt : ∀ i ∈ q, i < rs.length := fun i hi => by simpa using pm.mem_iff.mp hi
    have em : q.map (atV ((List.range rs.length).map fun j : Nat => V.int (j : Int))) = natsV q := by
     unfold natsV
     rw [List.map_map]
     exact List.map_congr_left fun i hi => atV_range (lt i hi)
    rw [em] at eD
    refine h D H3 q (x2.trans x3) (x2.none hD) ⟨pm, pw.imp_of_mem fun {a b} ha hb hs => ?_⟩ eD
    unfold SR.sl ltT at hs
    rw [atV_range (lt a ha), atV_range (lt b hb)] at hs
    simp only [Int.toNat_natCast] at hs
    rcases hs with g | ⟨g, _⟩
    ·exact lex_as _ _ g
    ·exact g
end
end LW
namespace LW
open PySem L2 MA PyProof.Rows
section
variable {P : Program} {w : World} {K : PySem.W.Frag} {mg : Str → Option Value} {base : Heap}
theorem sc_halves : FnScope ["spots", "order", "half"] ["spots"] (defScope s_halves) := ⟨rfl, rfl, rfl, by decide +kernel, rfl, by decide +kernel, by decide +kernel⟩
set_option maxHeartbeats 0 in
theorem ok_halves {C : Cz} {f : Addr} {fd : FuncData} (F : Fun K "halves" "halves" s_halves f fd) (T : Txt P K mg C) (F_by_place : FnB P w K mg base (CXE P w) 2 "by_place" ["spots"] (sp_place K C)) (F_check_spots : FnB P w K mg base (CXE P w) 2 "check_spots" ["spots"] (sp_csE K C)) : FnOk P w K mg base (CXE P w) 3 f fd ["spots"] (sp_halvesE K C) := by
 refine okE F (k := 2) sc_halves (fun vs H Q E h => ?_) (fun cdv A outer s H vs Q E hr h => ?_)
 ·obtain ⟨l, qs, rs, rfl, _⟩ := h
  rfl
 ·obtain ⟨l, qs, rs, rfl, h⟩ := h
  refine' ⟨_, ?main, ?rest⟩
  case main =>
   refine' pss_cut ?c1 ?c2
   case' c1 => refine' ps_expr ?c3
   case' c3 => refine' pe_fn F_check_spots (hr.mono (by decide)) rfl passE ?c4
   case' c4 => exact (pa_cons (pvF 0) pa_nil)
   case' c2 => refine' pss_cons ?c5 ?c6
   case' c5 => refine' ps_if ?c7 ?c8 ?c9
   case' c7 => refine' pt_cmpF op_eqI ?c10 pe_int (nomark _)
   case' c10 => refine' pe_callB call_lenF (by rfl) T.b_len PySem.boot_len ?c11
   case' c11 => exact (pa_cons (pvF 0) pa_nil)
   case' c8 => refine' pss_one ?c12
   case' c12 => refine' ps_raise (K := K) rfl madeE T.x_NoLot rfl T.g_NoLot ?c13
   case' c13 => exact (pa_cons pe_str pa_nil)
   case c9 => exact pss_nil
   case' c6 => refine' pss_cons ?c14 ?c15
   case' c14 => refine' ps_set (i := 1) sc_halves.nd rfl (Or.inl rfl) ?c16
   case' c16 => refine' pe_fn F_by_place (hr.mono (by decide)) rfl passE0 ?c17
   case' c17 => exact (pa_cons (pvF 0) pa_nil)
   case' c15 => refine' pss_cons ?c18 ?c19
   case' c18 => refine' ps_set (i := 2) sc_halves.nd rfl (Or.inl rfl) ?c20
   case' c20 => refine' pe_op (OpR.f op_fdivB) ?c21 pe_int
   case' c21 => refine' pe_callB call_lenF (by rfl) T.b_len PySem.boot_len ?c22
   case' c22 => exact (pa_cons (pvF 0) pa_nil)
   case' c19 => refine' pss_one ?c23
   case' c23 => refine' ps_ret ?c24
   case' c24 => refine' pe_tup ?c25
   case' c25 => refine' pa_cons ?c26 ?c27
   case' c26 => refine' pe_callB (call_sortI (K := K) rfl) (by rfl) T.b_sorted boot_sorted ?c28
   case' c28 => refine' pa_cons ?c29 pa_nil
   case' c29 => exact (pe_slice sl_F (pvF 1) po_none (po_some (pvF 2)))
   case' c27 => refine' pa_cons ?c30 pa_nil
   case' c30 => refine' pe_callB (call_sortI (K := K) rfl) (by rfl) T.b_sorted boot_sorted ?c31
   case' c31 => refine' pa_cons ?c32 pa_nil
   case' c32 => exact (pe_slice sl_F (pvF 1) (po_some (pvF 2)) po_none)
  case rest =>
   obtain ⟨hl, hr, tb, h1, h2, h3, h4⟩ := h
   have lq : (qs.map V.ref).length = rs.length := by rw [List.length_map, hr.1]
   simp only [L2.start, List.map_cons, List.map_nil, List.length_cons, List.length_nil, Nat.reduceAdd, Nat.reduceSub, List.replicate_succ, List.replicate_zero, List.cons_append, List.nil_append, List.append_nil]
   refine ⟨fun σ H' => σ = [some (.ref l), none, none] ∧ Ext H H' ∧ (0 < rs.length ∧ rs.length ≤ 12 ∧ rs.Nodup), ?_, ?_⟩
   ·o_head ⟨sp_csE⟩
    exact ⟨qs, hl, rs, hr, h1, fun g0 g12 H' x => ⟨fun nd => ⟨x, g0, g12, nd⟩, fun i dx fd hd => h2 g0 g12 H' x i dx fd hd⟩⟩
   ·rintro σ H1 ⟨rfl, x1, n0, n12, nd⟩
    have hl1 := x1 _ _ hl
    have hr1 := hr.ext x1
    o_head ⟨hl1, lq, sp_place⟩
    by_cases c : (rs.length : Int) = 1
    ·rw [if_pos c]
     exact ⟨by decide, h3 (by omega) _ x1⟩
    rw [if_neg c]
    have n2 : 2 ≤ rs.length := by omega
    refine ⟨qs, rfl, rs, hr1, n12, x1 _ _ tb, fun O H2 q x2 hO pq eO => ?_⟩
    have lqq : q.length = rs.length := by have := pq.1.length_eq; rwa [List.length_range] at this
    rw [x2 _ _ hl1, seqOf_l, optK_some, eO, lstOf_l, optK_some, lq]
    have ef : ((rs.length : Nat) : Int).fdiv 2 = ((rs.length / 2 : Nat) : Int) := by rw [Int.fdiv_eq_ediv_of_nonneg _ (by decide)]; omega
    rw [ef]
    intro p1 h1
    have e1 : cutV (natsV q) none (some ((rs.length / 2 : Nat) : Int)) = ((q.take (rs.length / 2)).map fun i : Nat => (i : Int)).map V.int := by rw [cut_to]; unfold natsV; rw [List.map_take, List.map_take]
    have e2 : cutV (natsV q) (some ((rs.length / 2 : Nat) : Int)) none = ((q.drop (rs.length / 2)).map fun i : Nat => (i : Int)).map V.int := by rw [cut_from]; unfold natsV; rw [List.map_drop, List.map_drop]
    rw [e1]
    refine ⟨p1, _, rfl, SqL.of upd_same, by rw [List.length_map, List.length_take]; omega, fun a A ha pA sA => ?_⟩
    have y1 := (Ext.upd (o := .lst (((q.take (rs.length / 2)).map fun i : Nat => (i : Int)).map V.int)) h1).then (o := .lst (A.map V.int)) ha
    dsimp only
    rw [y1 _ _ eO, lstOf_l, optK_some, e2]
    intro p2 h2
    have y2 := y1.then (o := .lst (((q.drop (rs.length / 2)).map fun i : Nat => (i : Int)).map V.int)) h2
    refine ⟨p2, _, rfl, SqL.of upd_same, by rw [List.length_map, List.length_drop]; omega, fun b B hb pB sB => ⟨by decide, fun t ht => ?_⟩⟩
    have ea := upd_f (o := .tup [.ref a, .ref b]) ht (upd_f (o := .lst (B.map V.int)) hb (upd_f (o := .lst (((q.drop (rs.length / 2)).map fun i : Nat => (i : Int)).map V.int)) h2 (upd_same (H := upd H2 p1 (.lst (((q.take (rs.length / 2)).map fun i : Nat => (i : Int)).map V.int))) (a := a) (o := .lst (A.map V.int)))))
    have x4 := (x1.trans x2).trans y1
    refine h4 n2 n12 nd t a b A B _ (((x1.trans x2).trans (y2.then hb)).then ht) upd_same ?_ ?_ ?_ ea (upd_f ht upd_same) ⟨q, pq, pA, pB, sA, sB⟩
    ·exact ((x1.trans x2).trans (Ext.upd (o := .lst (((q.take (rs.length / 2)).map fun i : Nat => (i : Int)).map V.int)) h1)).none ha
    ·exact (((x1.trans x2).trans y2)).none hb
    ·rintro rfl
     have := upd_f (o := .lst (((q.drop (rs.length / 2)).map fun i : Nat => (i : Int)).map V.int)) h2 (upd_same (H := upd H2 p1 (.lst (((q.take (rs.length / 2)).map fun i : Nat => (i : Int)).map V.int))) (a := a) (o := .lst (A.map V.int)))
     rw [this] at hb
     cases hb
end
end LW
namespace LW
open PySem L2 MA PyProof.Rows
section
variable {P : Program} {w : World} {K : PySem.W.Frag} {mg : Str → Option Value} {base : Heap}
theorem sc__law_feed : FnScope ["_law_script"] ["_law_script"] (defScope s__law_feed) := ⟨rfl, rfl, rfl, by decide +kernel, rfl, by decide +kernel, by decide +kernel⟩
set_option maxHeartbeats 0 in
theorem ok__law_feed {C : Cz} {f : Addr} {fd : FuncData} (F : Fun K "_law_feed" "_law_feed" s__law_feed f fd) (T : Txt P K mg C)  : FnOk P w K mg base (CXE P w) 1 f fd ["_law_script"] (sp_feed K) := by
 refine okN F (k := 0) sc__law_feed (fun vs H Q E h => ?_) (fun cdv A outer s H vs Q E hr h => ?_)
 ·obtain ⟨a, ns, rfl, _⟩ := h
  rfl
 ·obtain ⟨a, ns, rfl, h⟩ := h
  refine' ⟨_, ?main, ?rest⟩
  case main =>
   refine' pss_one ?c1
   case' c1 => refine' ps_ret ?c2
   case' c2 => refine' pe_disp ?c3 rfl rfl (by decide) (by decide)
   case' c3 => refine' pps_cons pe_str ?c4 ?c5
   case' c4 => refine' pe_callTy call_listF (by rfl) T.b_list boot_list ?c6
   case' c6 => refine' pa_cons ?c7 pa_nil
   case' c7 => refine' pe_slice (sl_listK (K := K) rfl) (pvF 0) po_none ?c8
   case' c8 => exact (po_some pe_int)
   case' c5 => refine' pps_cons pe_str pe_int ?c9
   case' c9 => exact (pps_cons pe_str pe_int pps_nil)
  case rest =>
   obtain ⟨hS, hl, h⟩ := h
   simp only [L2.start, List.map_cons, List.map_nil, List.length_cons, List.length_nil, Nat.reduceAdd, Nat.reduceSub, List.replicate_succ, List.replicate_zero, List.cons_append, List.nil_append, List.append_nil]
   walk_at "RD"
   intro p hp
   refine ⟨a, _, rfl, (Ext.upd hp).sqL hS, fun l1 h1 => ?_⟩
   walk_at "RD"
   intro l2 h2
   have e1 : cutV (ns.map V.int) none (some 63) = (ns.take 63).map V.int := by
    have := cut_to (ns.map V.int) 63
    rw [← List.map_take] at this
    exact this
   refine ⟨upd_f h2 (upd_f h1 upd_same), [(Sum.inr "cells", .ref l2), (Sum.inr "at", .int 0), (Sum.inr "left", .int 0)], rfl, (by show 3 ≤ 15; decide), ?_⟩
   rw [e1] at h2 ⊢
   refine h p l2 _ ((((Ext.upd (o := .dK []) hp).then h1).then h2).set hp) hp ⟨ns.take 63, 0, 0, upd_same, ?_, by rw [List.length_take]; omega, Nat.le_refl _⟩
   rw [upd_ne (ne_of_none (upd_f h1 upd_same) h2).symm]
   exact upd_same
end
end LW
namespace LW
open PySem L2 MA PyProof.Rows
section
variable {P : Program} {w : World} {K : PySem.W.Frag} {mg : Str → Option Value} {base : Heap}
theorem sc__law_draw : FnScope ["_law_feed_here", "_law_many", "_law_found", "_law_at", "_law_cell", "_law_number"] ["_law_feed_here", "_law_many"] (defScope s__law_draw) := ⟨rfl, rfl, rfl, by decide +kernel, rfl, by decide +kernel, by decide +kernel⟩
set_option maxHeartbeats 0 in
theorem ok__law_draw {C : Cz} {f : Addr} {fd : FuncData} (F : Fun K "_law_draw" "_law_draw" s__law_draw f fd) (T : Txt P K mg C)  : FnOk P w K mg base (CXE P w) 1 f fd ["_law_feed_here", "_law_many"] sp_draw := by
 refine okN F (k := 0) sc__law_draw (fun vs H Q E h => ?_) (fun cdv A outer s H vs Q E hr h => ?_)
 ·obtain ⟨p, m, c, b, rfl, _⟩ := h
  rfl
 ·obtain ⟨p, m, c, b, rfl, h⟩ := h
  refine' ⟨_, ?main, ?rest⟩
  case main =>
   refine' pss_cons ?c1 ?c2
   case' c1 => refine' ps_if ?c3 ?c4 ?c5
   case' c3 => refine' pt_cmpF (OpR.f0 op_gt) ?c6 pe_int (nomark _)
   case' c6 => exact (pe_dgS (hu_of hr) (pvF 0) pe_str (fun _ _ => rfl))
   case' c4 => refine' pss_cons ?c7 ?c8
   case' c7 => refine' ps_set (i := 2) sc__law_draw.nd rfl (Or.inl rfl) ?c9
   case' c9 => refine' pe_op (OpR.f op_mod) ?c10 (pvF 1)
   case' c10 => exact (pe_dgS (hu_of hr) (pvF 0) pe_str (fun _ _ => rfl))
   case' c8 => refine' pss_cons ?c11 ?c12
   case' c11 => refine' ps_dpS (hu_of hr) (pvF 0) pe_str ?c13 rfl
   case' c13 => refine' pe_op (OpR.f op_fdivB) ?c14 (pvF 1)
   case' c14 => exact (pe_dgS (hu_of hr) (pvF 0) pe_str (fun _ _ => rfl))
   case' c12 => exact (pss_one (ps_ret (pvF 2)))
   case c5 => exact pss_nil
   case' c2 => refine' pss_cons ?c15 ?c16
   case' c15 => refine' ps_set (i := 3) sc__law_draw.nd rfl (Or.inl rfl) ?c17
   case' c17 => exact (pe_dgS (hu_of hr) (pvF 0) pe_str (fun _ _ => rfl))
   case' c16 => refine' pss_cons ?c18 ?c19
   case' c18 => refine' ps_dpS (hu_of hr) (pvF 0) pe_str ?c20 rfl
   case' c20 => exact (pe_op (OpR.f0 op_add) (pvF 3) pe_int)
   case' c19 => refine' pss_cons (ps_set (i := 4) sc__law_draw.nd rfl (Or.inl rfl) (pvF 3)) ?c21
   case' c21 => refine' pss_cons ?c22 ?c23
   case' c22 => refine' ps_if ?c24 ?c25 ?c26
   case' c24 => refine' pt_cmpF (OpR.f0 op_gt) ?c27 pe_int (nomark _)
   case' c27 => refine' pe_callB call_lenF (by rfl) T.b_len PySem.boot_len ?c28
   case' c28 => refine' pa_cons ?c29 pa_nil
   case' c29 => exact (pe_dgS (hu_of hr) (pvF 0) pe_str (fun _ _ => rfl))
   case' c25 => refine' pss_one ?c30
   case' c30 => refine' ps_set (i := 4) ?c31 ?c32 ?c33 ?c34
   case c31 => exact sc__law_draw.nd
   case c32 => exact rfl
   case c33 => exact (Or.inl rfl)
   case' c34 => refine' pe_ix ix_F ?c35 ?c36 (fun _ _ => rfl)
   case' c35 => exact (pe_dgS (hu_of hr) (pvF 0) pe_str (fun _ _ => rfl))
   case' c36 => refine' pe_op (OpR.f op_mod) (pvF 3) ?c37
   case' c37 => refine' pe_callB call_lenF (by rfl) T.b_len PySem.boot_len ?c38
   case' c38 => refine' pa_cons ?c39 pa_nil
   case' c39 => exact (pe_dgS (hu_of hr) (pvF 0) pe_str (fun _ _ => rfl))
   case c26 => exact pss_nil
   case' c23 => refine' pss_cons ?c40 ?c41
   case' c40 => refine' ps_if ?c42 ?c43 ?c44
   case' c42 => refine' PW.pt ?c45
   case' c45 => refine' pw_and ?c46 ?c47
   case' c46 => refine' pt_cmpF (OpR.f0 op_ge) (pvF 4) ?c48 (nomark _)
   case' c48 => exact (pe_op (OpR.f op_powB) pe_int pe_int)
   case' c47 => refine' pw_and1 ?c49
   case' c49 => refine' pt_cmpF (OpR.f0 op_lt) (pvF 3) ?c50 (nomark _)
   case' c50 => refine' pe_callB call_lenF (by rfl) T.b_len PySem.boot_len ?c51
   case' c51 => refine' pa_cons ?c52 pa_nil
   case' c52 => exact (pe_dgS (hu_of hr) (pvF 0) pe_str (fun _ _ => rfl))
   case' c43 => refine' pss_cons ?c53 ?c54
   case' c53 => exact (ps_dpS (hu_of hr) (pvF 0) pe_str (pe_op (OpR.f op_fdivB) (pvF 4) (pvF 1)) rfl)
   case' c54 => refine' pss_one ?c55
   case' c55 => exact (ps_ret (pe_op (OpR.f op_mod) (pvF 4) (pvF 1)))
   case c44 => exact pss_nil
   case' c41 => refine' pss_cons ?c56 ?c57
   case' c56 => refine' ps_set (i := 5) ?c58 ?c59 ?c60 ?c61
   case c58 => exact sc__law_draw.nd
   case c59 => exact rfl
   case c60 => exact (Or.inl rfl)
   case' c61 => refine' pe_op ?c62 ?c63 ?c64
   case c62 => exact (OpR.f op_mod)
   case' c63 => refine' pe_op ?c65 ?c66 ?c67
   case c65 => exact (OpR.f op_mulA)
   case' c66 => refine' pe_op ?c68 ?c69 ?c70
   case c68 => exact (OpR.f0 op_add)
   case' c69 => refine' pe_op (OpR.f0 op_add) ?c71 ?c72
   case' c71 => refine' pe_op (OpR.f0 op_add) ?c73 ?c74
   case' c73 => exact (pe_op (OpR.f op_mod) (pvF 4) pe_int)
   case' c74 => refine' pe_op (OpR.f op_mulA) ?c75 (pvF 3)
   case' c75 => exact (pe_op (OpR.f op_mulA) pe_int (pvF 3))
   case' c72 => exact (pe_op (OpR.f op_mulA) pe_int (pvF 3))
   case c70 => exact pe_int
   case c67 => exact pe_int
   case c64 => exact pe_int
   case' c57 => refine' pss_one ?c76
   case' c76 => refine' ps_ret ?c77
   case' c77 => refine' pe_op ?c78 ?c79 ?c80
   case c78 => exact (OpR.f op_mod)
   case' c79 => refine' pe_op ?c81 ?c82 ?c83
   case c81 => exact (OpR.f op_fdivB)
   case' c82 => refine' pe_op ?c84 ?c85 ?c86
   case c84 => exact (OpR.f op_mod)
   case' c85 => refine' pe_op (OpR.f op_mulA) ?c87 pe_int
   case' c87 => refine' pe_op (OpR.f op_mod) ?c88 pe_int
   case' c88 => refine' pe_op (OpR.f0 op_add) ?c89 ?c90
   case' c89 => exact (pe_op (OpR.f op_mulA) (pvF 5) pe_int)
   case' c90 => exact (pe_op (OpR.f op_mulA) pe_int (pvF 3))
   case c86 => exact pe_int
   case c83 => exact pe_int
   case c80 => exact (pvF 1)
  case rest =>
   obtain ⟨⟨ns, n, l, e1, e2, hl, hn⟩, hb, h0, h1, h⟩ := h
   simp only [L2.start, List.map_cons, List.map_nil, List.length_cons, List.length_nil, Nat.reduceAdd, Nat.reduceSub, List.replicate_succ, List.replicate_zero, List.cons_append, List.nil_append, List.append_nil]
   have hcp : c ≠ p := ne_of e2 e1 (by intro z; cases z)
   have e2x : ∀ kvs, upd H p (.dK kvs) c = some (.lst (ns.map V.int)) := fun kvs => (upd_ne hcp).trans e2
   have kp : ∀ kvs q o, q ≠ p → H q = some o → upd H p (.dK kvs) q = some o := fun kvs q o hq e => (upd_ne hq).trans e
   have bm : Bd 9000 m := Bd.of_le 100000 (by omega) (by omega) (by decide)
   o_head ⟨e1, fd_left, fd_at, fd_cells, fd_putat, fd_putleft, e2x, upd_upd, List.length_map⟩
   by_cases hL : 0 < l
   ·rw [if_pos hL]
    refine ⟨h0, by omega, bm, h _ _ (Int.emod_nonneg _ (by omega)) (Int.emod_lt_of_pos _ h0) ⟨⟨ns, n, _, upd_same, e2x _, hl, by omega⟩, kp _⟩⟩
   ·rw [if_neg hL]
    by_cases hL2 : 0 < (ns.length : Int)
    ·rw [if_pos hL2]
     refine ⟨hL2, ?_⟩
     obtain ⟨x, hx, _⟩ := atI_mod (xs := ns) (k := (n : Int)) (by omega)
     rw [hx]
     walk_at "RD"
     repeat' split
     all_goals first
      | exact ⟨by omega, bm, h0, h _ _ (Int.emod_nonneg _ (by omega)) (Int.emod_lt_of_pos _ h0) ⟨⟨ns, n + 1, _, upd_same, e2x _, hl, by omega⟩, kp _⟩⟩
      | exact ⟨.left (by decide) (by decide), .right (by omega) (by omega), .left (by decide) (by decide), .right (by decide) (by decide), .right (by decide) (by decide), .left (by decide) (by decide), .right (by decide) (by decide), Bd.lit (by decide) (by decide), h0, h _ _ (Int.emod_nonneg _ (by omega)) (Int.emod_lt_of_pos _ h0) ⟨⟨ns, n + 1, _, upd_same, e2x _, hl, by omega⟩, kp _⟩⟩
    ·rw [if_neg hL2]
     split
     ·split
      ·exact ⟨by omega, bm, h0, h _ _ (Int.emod_nonneg _ (by omega)) (Int.emod_lt_of_pos _ h0) ⟨⟨ns, n + 1, _, upd_same, e2x _, hl, by omega⟩, kp _⟩⟩
      ·exact ⟨.left (by decide) (by decide), .right (by omega) (by omega), .left (by decide) (by decide), .right (by decide) (by decide), .right (by decide) (by decide), .left (by decide) (by decide), .right (by decide) (by decide), Bd.lit (by decide) (by decide), h0, h _ _ (Int.emod_nonneg _ (by omega)) (Int.emod_lt_of_pos _ h0) ⟨⟨ns, n + 1, _, upd_same, e2x _, hl, by omega⟩, kp _⟩⟩
     ·exact ⟨.left (by decide) (by decide), .right (by omega) (by omega), .left (by decide) (by decide), .right (by decide) (by decide), .right (by decide) (by decide), .left (by decide) (by decide), .right (by decide) (by decide), Bd.lit (by decide) (by decide), h0, h _ _ (Int.emod_nonneg _ (by omega)) (Int.emod_lt_of_pos _ h0) ⟨⟨ns, n + 1, _, upd_same, e2x _, hl, by omega⟩, kp _⟩⟩
end
end LW
namespace LW
open PySem L2 MA PyProof.Rows
section
variable {P : Program} {w : World} {K : PySem.W.Frag} {mg : Str → Option Value} {base : Heap}
theorem sc__law_great : FnScope ["_law_feed_here", "_law_pieces", "_law_number", "_law_k"] ["_law_feed_here", "_law_pieces"] (defScope s__law_great) := ⟨rfl, rfl, rfl, by decide +kernel, rfl, by decide +kernel, by decide +kernel⟩
set_option maxHeartbeats 0 in
theorem ok__law_great {C : Cz} {f : Addr} {fd : FuncData} (F : Fun K "_law_great" "_law_great" s__law_great f fd) (T : Txt P K mg C) (F__law_draw : FnB P w K mg base (CXE P w) 1 "_law_draw" ["_law_feed_here", "_law_many"] sp_draw) : FnOk P w K mg base (CXE P w) 2 f fd ["_law_feed_here", "_law_pieces"] sp_great := by
 refine okN F (k := 1) sc__law_great (fun vs H Q E h => ?_) (fun cdv A outer s H vs Q E hr h => ?_)
 ·obtain ⟨p, k, c, b, rfl, _⟩ := h
  rfl
 ·obtain ⟨p, k, c, b, rfl, h⟩ := h
  refine' ⟨_, ?main, ?rest⟩
  case main =>
   refine' pss_cons ?c1 ?c2
   case' c1 => exact (ps_set (i := 2) sc__law_great.nd rfl (Or.inl rfl) pe_int)
   case' c2 => refine' pss_cons ?c3 ?c4
   case' c3 => refine' ps_for ?c5 ?c6 ?c7 ?c8 ?c9
   case c5 => exact PassesOwn.never
   case c6 => exact rfl
   case' c7 => refine' pi_range1 rfl T.b_range ?c10
   case' c10 => exact (pa_cons (pvF 1) pa_nil)
   case c8 => exact (pg_name (i := 3) sc__law_great.nd rfl (Or.inl rfl))
   case' c9 => refine' pss_one ?c11
   case' c11 => refine' ps_set (i := 2) sc__law_great.nd rfl (Or.inl rfl) ?c12
   case' c12 => refine' pe_op (OpR.f0 op_add) ?c13 ?c14
   case' c13 => exact (pe_op (OpR.f op_mulA) (pvF 2) pe_int)
   case' c14 => refine' pe_fn F__law_draw (hr.mono (by decide)) rfl passE0 ?c15
   case' c15 => refine' pa_cons (pvF 0) ?c16
   case' c16 => exact (pa_cons pe_int pa_nil)
   case' c4 => exact (pss_one (ps_ret (pvF 2)))
  case rest =>
   obtain ⟨hF, hb, hk, h⟩ := h
   simp only [L2.start, List.map_cons, List.map_nil, List.length_cons, List.length_nil, Nat.reduceAdd, Nat.reduceSub, List.replicate_succ, List.replicate_zero, List.cons_append, List.nil_append, List.append_nil]
   walk_at "RD"
   refine tfor_range k (fun R hR => by walk_at "RD"; exact hR) (by omega) (fun i σ H' => ∃ (r : Int) (o3 : Option V), σ = [some (.ref p), some (.int k), some (.int r), o3] ∧ 0 ≤ r ∧ r < 100000 ^ i ∧ DX c (b + i) p H H') ⟨0, _, rfl, by decide, by decide, .refl hF⟩ ?_ ?_
   ·rintro i σ H' hi ⟨r, o3, rfl, r0, r1, dx⟩
    o_head ⟨sp_draw⟩
    refine ⟨.right (by decide) (by decide), _, _, dx.feed, by omega, fun r' H2 a1 a2 d2 => ?_⟩
    refine ⟨by omega, ?_, dx.trans (d2.mono (by omega))⟩
    rw [Int.pow_succ]
    generalize (100000 : Int) ^ i = N at r1 ⊢
    omega
   ·rintro σ H' ⟨r, o3, rfl, r0, r1, dx⟩
    walk_at "RD"
    exact h r H' r0 r1 dx
end
end LW
namespace LW
open PySem L2 MA PyProof.Rows
section
variable {P : Program} {w : World} {K : PySem.W.Frag} {mg : Str → Option Value} {base : Heap}
theorem sc__law_scale : FnScope ["_law_feed_here", "_law_way"] ["_law_feed_here"] (defScope s__law_scale) := ⟨rfl, rfl, rfl, by decide +kernel, rfl, by decide +kernel, by decide +kernel⟩
set_option maxHeartbeats 0 in
theorem ok__law_scale {C : Cz} {f : Addr} {fd : FuncData} (F : Fun K "_law_scale" "_law_scale" s__law_scale f fd) (T : Txt P K mg C) (F__law_great : FnB P w K mg base (CXE P w) 2 "_law_great" ["_law_feed_here", "_law_pieces"] sp_great) (F__law_draw : FnB P w K mg base (CXE P w) 1 "_law_draw" ["_law_feed_here", "_law_many"] sp_draw) : FnOk P w K mg base (CXE P w) 3 f fd ["_law_feed_here"] sp_scale := by
 refine okN F (k := 2) sc__law_scale (fun vs H Q E h => ?_) (fun cdv A outer s H vs Q E hr h => ?_)
 ·obtain ⟨p, c, b, rfl, _⟩ := h
  rfl
 ·obtain ⟨p, c, b, rfl, h⟩ := h
  refine' ⟨_, ?main, ?rest⟩
  case main =>
   refine' pss_cons ?c1 ?c2
   case' c1 => refine' ps_set (i := 1) sc__law_scale.nd rfl (Or.inl rfl) ?c3
   case' c3 => refine' pe_fn F__law_draw (hr.mono (by decide)) rfl passE0 ?c4
   case' c4 => refine' pa_cons (pvF 0) ?c5
   case' c5 => exact (pa_cons pe_int pa_nil)
   case' c2 => refine' pss_cons ?c6 ?c7
   case' c6 => refine' ps_if ?c8 ?c9 ?c10
   case' c8 => exact (pt_cmpF (OpR.f0 op_lt) (pvF 1) pe_int (nomark _))
   case' c9 => refine' pss_one ?c11
   case' c11 => refine' ps_ret ?c12
   case' c12 => refine' pe_tup ?c13
   case' c13 => refine' pa_cons pe_int ?c14
   case' c14 => refine' pa_cons pe_int ?c15
   case' c15 => exact (pa_cons pe_int pa_nil)
   case c10 => exact pss_nil
   case' c7 => refine' pss_cons ?c16 ?c17
   case' c16 => refine' ps_if ?c18 ?c19 ?c20
   case' c18 => exact (pt_cmpF op_eqI (pvF 1) pe_int (nomark _))
   case' c19 => refine' pss_one ?c21
   case' c21 => refine' ps_ret ?c22
   case' c22 => refine' pe_tup ?c23
   case' c23 => refine' pa_cons ?c24 ?c25
   case' c24 => refine' pe_op (OpR.f0 op_add) pe_int ?c26
   case' c26 => refine' pe_fn F__law_draw (hr.mono (by decide)) rfl passE0 ?c27
   case' c27 => refine' pa_cons (pvF 0) ?c28
   case' c28 => exact (pa_cons pe_int pa_nil)
   case' c25 => refine' pa_cons ?c29 ?c30
   case' c29 => refine' pe_op (OpR.f0 op_sub) ?c31 pe_int
   case' c31 => refine' pe_fn F__law_draw (hr.mono (by decide)) rfl passE0 ?c32
   case' c32 => refine' pa_cons (pvF 0) ?c33
   case' c33 => exact (pa_cons pe_int pa_nil)
   case' c30 => refine' pa_cons ?c34 pa_nil
   case' c34 => refine' pe_op (OpR.f0 op_sub) ?c35 pe_int
   case' c35 => refine' pe_fn F__law_draw (hr.mono (by decide)) rfl passE0 ?c36
   case' c36 => refine' pa_cons (pvF 0) ?c37
   case' c37 => exact (pa_cons pe_int pa_nil)
   case c20 => exact pss_nil
   case' c17 => refine' pss_one ?c38
   case' c38 => refine' ps_ret ?c39
   case' c39 => refine' pe_tup ?c40
   case' c40 => refine' pa_cons ?c41 ?c42
   case' c41 => refine' pe_op (OpR.f0 op_add) pe_int ?c43
   case' c43 => refine' pe_fn F__law_great (hr.mono (by decide)) rfl passE0 ?c44
   case' c44 => refine' pa_cons (pvF 0) ?c45
   case' c45 => exact (pa_cons pe_int pa_nil)
   case' c42 => refine' pa_cons ?c46 ?c47
   case' c46 => refine' pe_op ?c48 ?c49 ?c50
   case c48 => exact (OpR.f0 op_sub)
   case' c49 => refine' pe_fn F__law_great (hr.mono (by decide)) rfl passE0 ?c51
   case' c51 => refine' pa_cons (pvF 0) ?c52
   case' c52 => exact (pa_cons pe_int pa_nil)
   case' c50 => refine' pe_fn F__law_great (hr.mono (by decide)) rfl passE0 ?c53
   case' c53 => refine' pa_cons (pvF 0) ?c54
   case' c54 => exact (pa_cons pe_int pa_nil)
   case' c47 => refine' pa_cons ?c55 ?c56
   case' c55 => refine' pe_op ?c57 ?c58 ?c59
   case c57 => exact (OpR.f0 op_sub)
   case' c58 => refine' pe_fn F__law_great (hr.mono (by decide)) rfl passE0 ?c60
   case' c60 => refine' pa_cons (pvF 0) ?c61
   case' c61 => exact (pa_cons pe_int pa_nil)
   case' c59 => refine' pe_fn F__law_great (hr.mono (by decide)) rfl passE0 ?c62
   case' c62 => refine' pa_cons (pvF 0) ?c63
   case' c63 => exact (pa_cons pe_int pa_nil)
   case c56 => exact pa_nil
  case rest =>
   obtain ⟨hF, hb, h⟩ := h
   simp only [L2.start, List.map_cons, List.map_nil, List.length_cons, List.length_nil, Nat.reduceAdd, Nat.reduceSub, List.replicate_succ, List.replicate_zero, List.cons_append, List.nil_append, List.append_nil]
   o_head ⟨sp_draw⟩
   refine ⟨c, b, hF, by omega, fun r H1 a1 a2 d1 => ?_⟩
   split
   ·refine ⟨by decide, fun t ht => ?_⟩
    exact h t _ _ _ _ ((d1.upd ht).mono (by omega)) upd_same (by decide) (by decide) (by decide)
   ·split
    ·refine ⟨c, _, d1.feed, by omega, fun r2 H2 a3 a4 d2 => ⟨c, _, d2.feed, by omega, fun r3 H3 a5 a6 d3 => ⟨c, _, d3.feed, by omega, fun r4 H4 a7 a8 d4 => ⟨by decide, fun t ht => ?_⟩⟩⟩⟩
     exact h t _ _ _ _ ((((((d1.trans d2).trans d3).trans d4)).upd ht).mono (by omega)) upd_same (by omega) (by omega) (by omega)
    ·have p4 : (100000 : Int) ^ 4 = 10 ^ 20 := by decide
     have p5 : (100000 : Int) ^ 5 = 10 ^ 25 := by decide
     o_head ⟨sp_great⟩
     refine ⟨4, rfl, c, _, d1.feed, by omega, by decide, fun r2 H2 a3 a4 d2 => ⟨5, rfl, c, _, d2.feed, by omega, by decide, fun r3 H3 a5 a6 d3 => ⟨5, rfl, c, _, d3.feed, by omega, by decide, fun r4 H4 a7 a8 d4 => ⟨5, rfl, c, _, d4.feed, by omega, by decide, fun r5 H5 a9 a10 d5 => ⟨5, rfl, c, _, d5.feed, by omega, by decide, fun r6 H6 a11 a12 d6 => ⟨by decide, fun t ht => ?_⟩⟩⟩⟩⟩⟩
     rw [p4] at a4
     rw [p5] at a6 a8 a10 a12
     exact h t _ _ _ _ ((((((((d1.trans d2).trans d3).trans d4).trans d5).trans d6)).upd ht).mono (by omega)) upd_same (by omega) (by omega) (by omega)
end
end LW
namespace LW
open PySem L2 MA PyProof.Rows
section
variable {P : Program} {w : World} {K : PySem.W.Frag} {mg : Str → Option Value} {base : Heap}
theorem sc__law_spot : FnScope ["_law_feed_here", "_law_style", "_law_k"] ["_law_feed_here", "_law_style"] (defScope s__law_spot) := ⟨rfl, rfl, rfl, by decide +kernel, rfl, by decide +kernel, by decide +kernel⟩
set_option maxHeartbeats 0 in
theorem ok__law_spot {C : Cz} {f : Addr} {fd : FuncData} (F : Fun K "_law_spot" "_law_spot" s__law_spot f fd) (T : Txt P K mg C) (F__law_draw : FnB P w K mg base (CXE P w) 1 "_law_draw" ["_law_feed_here", "_law_many"] sp_draw) : FnOk P w K mg base (CXE P w) 2 f fd ["_law_feed_here", "_law_style"] sp_spot := by
 refine okN F (k := 1) sc__law_spot (fun vs H Q E h => ?_) (fun cdv A outer s H vs Q E hr h => ?_)
 ·obtain ⟨p, st, c, b, rfl, _⟩ := h
  rfl
 ·obtain ⟨p, st, c, b, rfl, h⟩ := h
  refine' ⟨_, ?main, ?rest⟩
  case main =>
   refine' pss_cons ?c1 ?c2
   case' c1 => refine' ps_if ?c3 ?c4 ?c5
   case' c3 => exact (pt_cmpF op_eqI (pvF 1) pe_int (nomark _))
   case' c4 => refine' pss_one ?c6
   case' c6 => refine' ps_ret ?c7
   case' c7 => refine' pe_tup ?c8
   case' c8 => refine' pa_cons ?c9 ?c10
   case' c9 => refine' pe_fn F__law_draw (hr.mono (by decide)) rfl passE0 ?c11
   case' c11 => refine' pa_cons (pvF 0) ?c12
   case' c12 => exact (pa_cons pe_int pa_nil)
   case' c10 => refine' pa_cons ?c13 pa_nil
   case' c13 => refine' pe_fn F__law_draw (hr.mono (by decide)) rfl passE0 ?c14
   case' c14 => refine' pa_cons (pvF 0) ?c15
   case' c15 => exact (pa_cons pe_int pa_nil)
   case c5 => exact pss_nil
   case' c2 => refine' pss_cons ?c16 ?c17
   case' c16 => refine' ps_if ?c18 ?c19 ?c20
   case' c18 => exact (pt_cmpF op_eqI (pvF 1) pe_int (nomark _))
   case' c19 => refine' pss_one ?c21
   case' c21 => refine' ps_ret ?c22
   case' c22 => refine' pe_tup ?c23
   case' c23 => refine' pa_cons ?c24 ?c25
   case' c24 => refine' pe_fn F__law_draw (hr.mono (by decide)) rfl passE0 ?c26
   case' c26 => refine' pa_cons (pvF 0) ?c27
   case' c27 => exact (pa_cons pe_int pa_nil)
   case' c25 => refine' pa_cons ?c28 pa_nil
   case' c28 => refine' pe_fn F__law_draw (hr.mono (by decide)) rfl passE0 ?c29
   case' c29 => refine' pa_cons (pvF 0) ?c30
   case' c30 => exact (pa_cons pe_int pa_nil)
   case c20 => exact pss_nil
   case' c17 => refine' pss_cons ?c31 ?c32
   case' c31 => refine' ps_set (i := 2) sc__law_spot.nd rfl (Or.inl rfl) ?c33
   case' c33 => refine' pe_fn F__law_draw (hr.mono (by decide)) rfl passE0 ?c34
   case' c34 => refine' pa_cons (pvF 0) ?c35
   case' c35 => exact (pa_cons pe_int pa_nil)
   case' c32 => refine' pss_cons ?c36 ?c37
   case' c36 => refine' ps_if ?c38 ?c39 ?c40
   case' c38 => exact (pt_cmpF op_eqI (pvF 1) pe_int (nomark _))
   case' c39 => refine' pss_one ?c41
   case' c41 => refine' ps_ret ?c42
   case' c42 => refine' pe_tup ?c43
   case' c43 => refine' pa_consS ?c44 ?c45
   case' c44 => refine' pe_ix ?c46 ?c47 ?c48 ?c49
   case c46 => exact ix_F
   case' c47 => refine' pe_lst ?c50
   case' c50 => refine' pa_cons ?c51 ?c52
   case c51 => exact pe_int
   case' c52 => refine' pa_cons ?c53 ?c54
   case c53 => exact pe_int
   case' c54 => refine' pa_cons ?c55 ?c56
   case c55 => exact pe_int
   case' c56 => refine' pa_cons ?c57 ?c58
   case c57 => exact pe_int
   case' c58 => refine' pa_cons ?c59 ?c60
   case c59 => exact pe_int
   case' c60 => refine' pa_cons ?c61 ?c62
   case c61 => exact pe_int
   case' c62 => refine' pa_cons ?c63 ?c64
   case c63 => exact pe_int
   case' c64 => refine' pa_cons ?c65 ?c66
   case c65 => exact pe_int
   case' c66 => refine' pa_cons pe_int ?c67
   case' c67 => refine' pa_cons pe_int ?c68
   case' c68 => refine' pa_cons pe_int ?c69
   case' c69 => exact (pa_cons pe_int pa_nil)
   case c48 => exact (pvF 2)
   case c49 => exact (fun _ _ => rfl)
   case' c45 => refine' pa_consS ?c70 ?c71
   case' c70 => refine' pe_ix ?c72 ?c73 ?c74 ?c75
   case c72 => exact ix_F
   case' c73 => refine' pe_lst ?c76
   case' c76 => refine' pa_cons ?c77 ?c78
   case c77 => exact pe_int
   case' c78 => refine' pa_cons ?c79 ?c80
   case c79 => exact pe_int
   case' c80 => refine' pa_cons ?c81 ?c82
   case c81 => exact pe_int
   case' c82 => refine' pa_cons ?c83 ?c84
   case c83 => exact pe_int
   case' c84 => refine' pa_cons ?c85 ?c86
   case c85 => exact pe_int
   case' c86 => refine' pa_cons ?c87 ?c88
   case c87 => exact pe_int
   case' c88 => refine' pa_cons ?c89 ?c90
   case c89 => exact pe_int
   case' c90 => refine' pa_cons ?c91 ?c92
   case c91 => exact pe_int
   case' c92 => refine' pa_cons pe_int ?c93
   case' c93 => refine' pa_cons pe_int ?c94
   case' c94 => refine' pa_cons pe_int ?c95
   case' c95 => exact (pa_cons pe_int pa_nil)
   case c74 => exact (pvF 2)
   case c75 => exact (fun _ _ => rfl)
   case c71 => exact pa_nil
   case c40 => exact pss_nil
   case' c37 => refine' pss_one ?c96
   case' c96 => refine' ps_ret ?c97
   case' c97 => refine' pe_ix ?c98 ?c99 ?c100 ?c101
   case c98 => exact ix_F
   case' c99 => refine' pe_lst ?c102
   case' c102 => refine' pa_cons ?c103 ?c104
   case' c103 => refine' pe_tup ?c105
   case' c105 => refine' pa_cons (pvF 2) ?c106
   case' c106 => exact (pa_cons pe_int pa_nil)
   case' c104 => refine' pa_cons ?c107 ?c108
   case' c107 => refine' pe_tup ?c109
   case' c109 => refine' pa_cons pe_int ?c110
   case' c110 => exact (pa_cons (pvF 2) pa_nil)
   case' c108 => refine' pa_cons ?c111 pa_nil
   case' c111 => refine' pe_tup ?c112
   case' c112 => refine' pa_cons (pvF 2) ?c113
   case' c113 => exact (pa_cons (pvF 2) pa_nil)
   case' c100 => exact (pe_op (OpR.f0 op_sub) (pvF 1) pe_int)
   case c101 => exact (fun _ _ => rfl)
  case rest =>
   obtain ⟨hF, hb, s0, s5, h⟩ := h
   simp only [L2.start, List.map_cons, List.map_nil, List.length_cons, List.length_nil, Nat.reduceAdd, Nat.reduceSub, List.replicate_succ, List.replicate_zero, List.cons_append, List.nil_append, List.append_nil]
   o_head ⟨sp_draw⟩
   split
   ·refine ⟨c, b, hF, by omega, fun r1 H1 a1 a2 d1 => ⟨c, _, d1.feed, by omega, fun r2 H2 a3 a4 d2 => ⟨by decide, fun t ht => ?_⟩⟩⟩
    exact h t _ _ _ (((d1.trans d2).upd ht).mono (by omega)) upd_same (by omega) (by omega)
   ·split
    ·refine ⟨c, b, hF, by omega, fun r1 H1 a1 a2 d1 => ⟨c, _, d1.feed, by omega, fun r2 H2 a3 a4 d2 => ⟨by decide, fun t ht => ?_⟩⟩⟩
     exact h t _ _ _ (((d1.trans d2).upd ht).mono (by omega)) upd_same (by omega) (by omega)
    ·refine ⟨c, b, hF, by omega, fun r1 H1 a1 a2 d1 => ?_⟩
     split
     ·obtain ⟨x, hx, mx⟩ := atI_lt (xs := [10, 9, 8, 5, 2, 1, 0, 1, 2, 5, 8, 9]) a1 a2
      obtain ⟨y, hy, my⟩ := atI_lt (xs := [5, 8, 9, 10, 9, 8, 5, 2, 1, 0, 1, 2]) a1 a2
      have bx : ∀ x ∈ ([10, 9, 8, 5, 2, 1, 0, 1, 2, 5, 8, 9] : List Int), 0 ≤ x ∧ x ≤ 12 := by decide
      have bY : ∀ x ∈ ([5, 8, 9, 10, 9, 8, 5, 2, 1, 0, 1, 2] : List Int), 0 ≤ x ∧ x ≤ 12 := by decide
      simp only [List.map_cons, List.map_nil] at hx hy
      refine ⟨by decide, fun t1 h1 => ?_⟩
      rw [hx, optK_some]
      refine ⟨by decide, fun t2 h2 => ?_⟩
      rw [hy, optK_some]
      exact ⟨by decide, fun t3 h3 => h t3 x y _ ((((d1.upd h1).upd h2).upd h3).mono (by omega)) upd_same (bx x mx) (bY y my)⟩
     ·refine ⟨by decide, fun t1 h1 => ⟨by decide, fun t2 h2 => ⟨by decide, fun t3 h3 => ⟨by decide, fun t4 h4 => ?_⟩⟩⟩⟩
      have dd := ((((d1.upd (o := .tup [.int r1, .int 4]) h1).upd (o := .tup [.int 5, .int r1]) h2).upd (o := .tup [.int r1, .int r1]) h3).upd (o := .lst [.ref t1, .ref t2, .ref t3]) h4).mono (show b + 1 ≤ b + 2 by omega)
      have : st = 3 ∨ st = 4 ∨ st = 5 := by omega
      rcases this with rfl | rfl | rfl
      ·exact h t1 _ _ _ dd (upd_f h4 (upd_f h3 (upd_f h2 upd_same))) (by omega) (by omega)
      ·exact h t2 _ _ _ dd (upd_f h4 (upd_f h3 upd_same)) (by omega) (by omega)
      ·exact h t3 _ _ _ dd (upd_f h4 upd_same) (by omega) (by omega)
end
end LW
namespace LW
open PySem L2 MA PyProof.Rows
section
variable {P : Program} {w : World} {K : PySem.W.Frag} {mg : Str → Option Value} {base : Heap}
theorem sc__law_dozen : FnScope ["_law_feed_here", "_law_way", "_law_found", "_law_k", "_law_at"] ["_law_feed_here"] (defScope s__law_dozen) := ⟨rfl, rfl, rfl, by decide +kernel, rfl, by decide +kernel, by decide +kernel⟩
set_option maxHeartbeats 0 in
theorem ok__law_dozen {C : Cz} {f : Addr} {fd : FuncData} (F : Fun K "_law_dozen" "_law_dozen" s__law_dozen f fd) (T : Txt P K mg C) (F__law_draw : FnB P w K mg base (CXE P w) 1 "_law_draw" ["_law_feed_here", "_law_many"] sp_draw) : FnOk P w K mg base (CXE P w) 2 f fd ["_law_feed_here"] sp_dozen := by
 refine okN F (k := 1) sc__law_dozen (fun vs H Q E h => ?_) (fun cdv A outer s H vs Q E hr h => ?_)
 ·obtain ⟨p, c, b, rfl, _⟩ := h
  rfl
 ·obtain ⟨p, c, b, rfl, h⟩ := h
  refine' ⟨_, ?main, ?rest⟩
  case main =>
   refine' pss_cons ?c1 ?c2
   case' c1 => refine' ps_set (i := 1) sc__law_dozen.nd rfl (Or.inl rfl) ?c3
   case' c3 => refine' pe_fn F__law_draw (hr.mono (by decide)) rfl passE0 ?c4
   case' c4 => refine' pa_cons (pvF 0) ?c5
   case' c5 => exact (pa_cons pe_int pa_nil)
   case' c2 => refine' pss_cons ?c6 ?c7
   case' c6 => refine' ps_set (i := 2) sc__law_dozen.nd rfl (Or.inl rfl) ?c8
   case' c8 => exact (pe_lst pa_nil)
   case' c7 => refine' pss_cut ?c9 ?c10
   case' c9 => refine' ps_for ?c11 ?c12 ?c13 ?c14 ?c15
   case c11 => exact PassesOwn.never
   case c12 => exact rfl
   case' c13 => refine' pi_range1 rfl T.b_range ?c16
   case' c16 => refine' pa_cons ?c17 pa_nil
   case' c17 => refine' pe_op (OpR.f0 op_add) pe_int ?c18
   case' c18 => refine' pe_fn F__law_draw (hr.mono (by decide)) rfl passE0 ?c19
   case' c19 => refine' pa_cons (pvF 0) ?c20
   case' c20 => exact (pa_cons pe_int pa_nil)
   case c14 => exact (pg_name (i := 3) sc__law_dozen.nd rfl (Or.inl rfl))
   case' c15 => refine' pss_one ?c21
   case' c21 => refine' ps_if ?c22 ?c23 ?c24
   case' c22 => exact (pt_cmpF op_eqI (pvF 1) pe_int (nomark _))
   case' c23 => refine' pss_one ?c25
   case' c25 => refine' ps_expr ?c26
   case' c26 => refine' pe_app ?c27 ?c28
   case c27 => exact (pvF 2)
   case' c28 => refine' pa_cons ?c29 ?c30
   case' c29 => refine' pe_tup ?c31
   case' c31 => refine' pa_cons ?c32 ?c33
   case' c32 => exact (pe_op (OpR.f op_mod) (pvF 3) pe_int)
   case' c33 => refine' pa_cons ?c34 pa_nil
   case' c34 => exact (pe_op (OpR.f op_fdivB) (pvF 3) pe_int)
   case c30 => exact pa_nil
   case' c24 => refine' pss_one ?c35
   case' c35 => refine' ps_if ?c36 ?c37 ?c38
   case' c36 => exact (pt_cmpF op_eqI (pvF 1) pe_int (nomark _))
   case' c37 => refine' pss_one ?c39
   case' c39 => refine' ps_expr ?c40
   case' c40 => refine' pe_app ?c41 ?c42
   case c41 => exact (pvF 2)
   case' c42 => refine' pa_cons ?c43 ?c44
   case' c43 => refine' pe_tup ?c45
   case' c45 => refine' pa_consS ?c46 ?c47
   case' c46 => refine' pe_ix ?c48 ?c49 ?c50 ?c51
   case c48 => exact ix_F
   case' c49 => refine' pe_lst ?c52
   case' c52 => refine' pa_cons ?c53 ?c54
   case c53 => exact pe_int
   case' c54 => refine' pa_cons ?c55 ?c56
   case c55 => exact pe_int
   case' c56 => refine' pa_cons ?c57 ?c58
   case c57 => exact pe_int
   case' c58 => refine' pa_cons ?c59 ?c60
   case c59 => exact pe_int
   case' c60 => refine' pa_cons ?c61 ?c62
   case c61 => exact pe_int
   case' c62 => refine' pa_cons ?c63 ?c64
   case c63 => exact pe_int
   case' c64 => refine' pa_cons ?c65 ?c66
   case c65 => exact pe_int
   case' c66 => refine' pa_cons ?c67 ?c68
   case c67 => exact pe_int
   case' c68 => refine' pa_cons pe_int ?c69
   case' c69 => refine' pa_cons pe_int ?c70
   case' c70 => refine' pa_cons pe_int ?c71
   case' c71 => exact (pa_cons pe_int pa_nil)
   case c50 => exact (pvF 3)
   case c51 => exact (fun _ _ => rfl)
   case' c47 => refine' pa_consS ?c72 ?c73
   case' c72 => refine' pe_ix ?c74 ?c75 ?c76 ?c77
   case c74 => exact ix_F
   case' c75 => refine' pe_lst ?c78
   case' c78 => refine' pa_cons ?c79 ?c80
   case c79 => exact pe_int
   case' c80 => refine' pa_cons ?c81 ?c82
   case c81 => exact pe_int
   case' c82 => refine' pa_cons ?c83 ?c84
   case c83 => exact pe_int
   case' c84 => refine' pa_cons ?c85 ?c86
   case c85 => exact pe_int
   case' c86 => refine' pa_cons ?c87 ?c88
   case c87 => exact pe_int
   case' c88 => refine' pa_cons ?c89 ?c90
   case c89 => exact pe_int
   case' c90 => refine' pa_cons ?c91 ?c92
   case c91 => exact pe_int
   case' c92 => refine' pa_cons ?c93 ?c94
   case c93 => exact pe_int
   case' c94 => refine' pa_cons pe_int ?c95
   case' c95 => refine' pa_cons pe_int ?c96
   case' c96 => refine' pa_cons pe_int ?c97
   case' c97 => exact (pa_cons pe_int pa_nil)
   case c76 => exact (pvF 3)
   case c77 => exact (fun _ _ => rfl)
   case c73 => exact pa_nil
   case c44 => exact pa_nil
   case' c38 => refine' pss_one ?c98
   case' c98 => refine' ps_expr ?c99
   case' c99 => refine' pe_app ?c100 ?c101
   case c100 => exact (pvF 2)
   case' c101 => refine' pa_cons ?c102 ?c103
   case' c102 => refine' pe_tup ?c104
   case' c104 => refine' pa_cons ?c105 ?c106
   case c105 => exact (pvF 3)
   case' c106 => refine' pa_consS ?c107 ?c108
   case' c107 => refine' pe_ix ?c109 ?c110 ?c111 ?c112
   case c109 => exact ix_F
   case' c110 => refine' pe_lst ?c113
   case' c113 => refine' pa_cons pe_int ?c114
   case' c114 => refine' pa_cons ?c115 pa_nil
   case' c115 => refine' pe_fn F__law_draw (hr.mono (by decide)) rfl passE0 ?c116
   case' c116 => refine' pa_cons (pvF 0) ?c117
   case' c117 => exact (pa_cons pe_int pa_nil)
   case' c111 => exact (pe_op (OpR.f0 op_sub) (pvF 1) pe_int)
   case c112 => exact (fun _ _ => rfl)
   case c108 => exact pa_nil
   case c103 => exact pa_nil
   case' c10 => refine' pss_cons ?c118 ?c119
   case' c118 => refine' ps_set (i := 4) sc__law_dozen.nd rfl (Or.inl rfl) ?c120
   case' c120 => refine' pe_fn F__law_draw (hr.mono (by decide)) rfl passE0 ?c121
   case' c121 => refine' pa_cons (pvF 0) ?c122
   case' c122 => refine' pa_cons ?c123 pa_nil
   case' c123 => refine' pe_callB call_lenF (by rfl) T.b_len PySem.boot_len ?c124
   case' c124 => exact (pa_cons (pvF 2) pa_nil)
   case' c119 => refine' pss_one ?c125
   case' c125 => refine' ps_ret ?c126
   case' c126 => refine' pe_op op_catF ?c127 ?c128
   case' c127 => exact (pe_slice sl_F (pvF 2) (po_some (pvF 4)) po_none)
   case' c128 => exact (pe_slice sl_F (pvF 2) po_none (po_some (pvF 4)))
  case rest =>
   obtain ⟨hF, hb, h⟩ := h
   simp only [L2.start, List.map_cons, List.map_nil, List.length_cons, List.length_nil, Nat.reduceAdd, Nat.reduceSub, List.replicate_succ, List.replicate_zero, List.cons_append, List.nil_append, List.append_nil]
   o_head ⟨sp_draw⟩
   refine ⟨c, b, hF, by omega, fun way H1 w1 w2 d1 => ?_⟩
   refine ⟨by decide, fun L hL => ?_⟩
   have dL := d1.upd (o := .lst []) hL
   have nLp := d1.feed.ne hL
   refine ⟨fun σ H' => ∃ (qs : List Addr) (rs : List P2) (o3 : Option V), σ = [some (.ref p), some (.int way), some (.ref L), o3, none] ∧ H' L = some (.lst (qs.map V.ref)) ∧ R2At H' qs rs ∧ (∀ i r, rs[i]? = some r → DzOk way i r) ∧ 10 ≤ rs.length ∧ rs.length ≤ 12 ∧ DX c (b + 14) p H H', ?_, ?_⟩
   ·refine tfor_rangeH (fun n H' => 10 ≤ n ∧ n ≤ 12 ∧ H' L = some (.lst []) ∧ DX c (b + 2) p H H') ?_ ?_
    ·intro R hR
     o_head ⟨sp_draw⟩
     refine ⟨c, _, dL.feed, by omega, fun r H2 a1 a2 d2 => ?_⟩
     have := hR (10 + r.toNat) H2 ⟨by omega, by omega, d2.keep _ _ nLp upd_same, dL.trans d2⟩
     rw [show ((10 + r.toNat : Nat) : Int) = 10 + r by omega] at this
     exact this
    ·rintro n H2 ⟨n10, n12, eL, d2⟩
     refine ⟨by omega, fun i σ H' => ∃ (qs : List Addr) (rs : List P2) (o3 : Option V), σ = [some (.ref p), some (.int way), some (.ref L), o3, none] ∧ H' L = some (.lst (qs.map V.ref)) ∧ R2At H' qs rs ∧ (∀ i r, rs[i]? = some r → DzOk way i r) ∧ rs.length = i ∧ DX c (b + 2 + i) p H H', ⟨[], [], _, rfl, eL, ⟨rfl, fun i q z a => by simp at a⟩, fun i r a => by simp at a, rfl, d2⟩, ?_, ?_⟩
     ·rintro i σ H3 hi ⟨qs, rs, o3, rfl, eL, r2, dz, rfl, d3⟩
      have lq := r2.1
      have fin : ∀ (H4 : Hp) (t : Addr) (x y : Int), DX c (b + 2 + (rs.length + 1)) p H H4 → H4 L = some (.lst (qs.map V.ref)) → R2At H4 qs rs → H4 t = none → DzOk way rs.length (x, y) →
        optK (lstOf (upd H4 t (.tup [.int x, .int y]) L)) fun xs => xs.length < 1000000 ∧ ∃ qs', HO.lst (xs ++ [.ref t]) = HO.lst (qs'.map V.ref) ∧ ∃ rs', R2At (upd (upd H4 t (.tup [.int x, .int y])) L (.lst (xs ++ [.ref t]))) qs' rs' ∧ (∀ i r, rs'[i]? = some r → DzOk way i r) ∧ rs'.length = rs.length + 1 ∧ DX c (b + 2 + (rs.length + 1)) p H (upd (upd H4 t (.tup [.int x, .int y])) L (.lst (xs ++ [.ref t]))) := by
       intro H4 t x y d4 e4 r4 ht hz
       have e' := upd_f (o := .tup [.int x, .int y]) ht e4
       rw [e', lstOf_l, optK_some]
       refine ⟨by rw [List.length_map]; omega, qs ++ [t], by rw [List.map_append]; rfl, rs ++ [(x, y)], R2At.setL ((r4.ext (Ext.upd ht)).append (R2At.one (r := (x, y)) upd_same)) e', fun i r' hi' => ?_, by rw [List.length_append]; rfl, (d4.upd ht).set (d1.none hL) hF⟩
       by_cases hlt : i < rs.length
       ·rw [List.getElem?_append_left hlt] at hi'
        exact dz i r' hi'
       ·have : i = rs.length := by
         have := (List.getElem?_eq_some_iff.mp hi').1
         rw [List.length_append] at this
         simp only [List.length_cons, List.length_nil] at this
         omega
        subst this
        rw [List.getElem?_append_right (Nat.le_refl _), Nat.sub_self] at hi'
        cases hi'
        exact hz
      have cs : ((0 : Int) + (rs.length : Int)) = (rs.length : Int) := Int.zero_add _
      have d3' := d3.mono (show b + 2 + rs.length ≤ b + 2 + (rs.length + 1) by omega)
      by_cases w0 : way = 0
      ·subst w0
       o_head ⟨eL⟩
       refine ⟨by decide, fun t ht => ?_⟩
       rw [cs, Int.fdiv_eq_ediv_of_nonneg _ (by decide)]
       exact fin H3 t _ _ d3' eL r2 ht (by unfold DzOk; rw [if_pos rfl])
      ·by_cases w1 : way = 1
       ·subst w1
        obtain ⟨x, hx, mx⟩ := atI_get (xs := dzX) (n := rs.length) (by show rs.length < 12; omega)
        obtain ⟨y, hy, my⟩ := atI_get (xs := dzY) (n := rs.length) (by show rs.length < 12; omega)
        simp only [dzX, List.map_cons, List.map_nil] at hx
        simp only [dzY, List.map_cons, List.map_nil] at hy
        o_head ⟨eL, cs, hx, hy⟩
        refine ⟨by decide, fun t1 h1 => ⟨by decide, fun t2 h2 => ⟨by decide, fun t3 h3 => ?_⟩⟩⟩
        have xx : Ext H3 _ := (Ext.upd (o := .lst [.int 10, .int 9, .int 8, .int 5, .int 2, .int 1, .int 0, .int 1, .int 2, .int 5, .int 8, .int 9]) h1).then (o := .lst [.int 5, .int 8, .int 9, .int 10, .int 9, .int 8, .int 5, .int 2, .int 1, .int 0, .int 1, .int 2]) h2
        exact fin _ t3 x y (d3'.ext xx) (xx _ _ eL) (r2.ext xx) h3 (by unfold DzOk; rw [if_neg (by decide), if_pos rfl]; exact ⟨mx, my⟩)
       ·have : way = 2 ∨ way = 3 := by omega
        rcases this with rfl | rfl
        ·o_head ⟨eL, sp_draw, cs⟩
         refine ⟨c, _, d3.feed, by omega, fun r H4 a1 a2 d4 => ⟨by decide, fun t1 h1 => ⟨by decide, fun t2 h2 => ?_⟩⟩⟩
         have xx := Ext.upd (o := .lst [.int 4, .int r]) h1
         exact fin _ t2 _ _ (((d3.trans d4).ext xx).mono (by omega)) (xx _ _ (d4.keep _ _ nLp eL)) ((r2.dx d3.feed d4).ext xx) h2 (by unfold DzOk; rw [if_neg (by decide), if_neg (by decide)]; exact ⟨rfl, show (0 : Int) ≤ 4 by decide, show (4 : Int) ≤ 10 by decide⟩)
        ·o_head ⟨eL, sp_draw, cs⟩
         refine ⟨c, _, d3.feed, by omega, fun r H4 a1 a2 d4 => ⟨by decide, fun t1 h1 => ⟨by decide, fun t2 h2 => ?_⟩⟩⟩
         have xx := Ext.upd (o := .lst [.int 4, .int r]) h1
         exact fin _ t2 _ _ (((d3.trans d4).ext xx).mono (by omega)) (xx _ _ (d4.keep _ _ nLp eL)) ((r2.dx d3.feed d4).ext xx) h2 (by unfold DzOk; rw [if_neg (by decide), if_neg (by decide)]; exact ⟨rfl, a1, by dsimp only; omega⟩)
     ·rintro σ H3 ⟨qs, rs, o3, rfl, eL, r2, dz, rfl, d3⟩
      exact ⟨qs, rs, o3, rfl, eL, r2, dz, n10, n12, d3.mono (by omega)⟩
   ·rintro σ H2 ⟨qs, rs, o3, rfl, eL, r2, dz, l10, l12, d2⟩
    have lq : (qs.map V.ref).length = rs.length := by rw [List.length_map, r2.1]
    o_head ⟨eL, lq, sp_draw⟩
    refine ⟨c, _, d2.feed, by omega, by omega, by omega, fun r H3 a1 a2 d3 => ?_⟩
    obtain ⟨k, rfl⟩ := Int.eq_ofNat_of_zero_le a1
    have eL3 := d3.keep _ _ nLp eL
    rw [eL3, lstOf_l, optK_some, cut_from]
    intro t1 h1
    rw [upd_f h1 eL3, lstOf_l, optK_some, cut_to]
    intro t2 h2
    rw [upd_f h2 upd_same, lstOf_l, optK_some]
    refine ⟨by rw [List.length_drop, List.length_take, List.length_map, r2.1]; omega, fun t3 h3 => ?_⟩
    have dd := ((((d2.trans d3).upd (o := .lst ((qs.map V.ref).drop k)) h1).upd (o := .lst ((qs.map V.ref).take k)) h2)).upd (o := .lst ((qs.map V.ref).drop k ++ (qs.map V.ref).take k)) h3
    have xx := ((Ext.upd (o := .lst ((qs.map V.ref).drop k)) h1).then (o := .lst ((qs.map V.ref).take k)) h2).then (o := .lst ((qs.map V.ref).drop k ++ (qs.map V.ref).take k)) h3
    have r3 := (r2.dx d2.feed d3).ext xx
    have h3' := (d2.trans d3).none (((Ext.upd (o := .lst ((qs.map V.ref).drop k)) h1).then (o := .lst ((qs.map V.ref).take k)) h2).none h3)
    refine h t3 (qs.drop k ++ qs.take k) (rs.drop k ++ rs.take k) _ (dd.mono (by omega)) h3' (by rw [upd_same, List.map_append, List.map_drop, List.map_take]) ((r3.drop k).append (r3.take k)) (nodup_rot (nodup_of_at dz fun i j r hi hj => DzOk.inj (by omega) (by omega)) k) ?_ ?_ ?_
    ·rw [List.length_append, List.length_drop, List.length_take]
     omega
    ·rw [List.length_append, List.length_drop, List.length_take]
     omega
    ·intro r hr'
     have hm : r ∈ rs := by
      rcases List.mem_append.mp hr' with q | q
      ·exact List.mem_of_mem_drop q
      ·exact List.mem_of_mem_take q
     obtain ⟨i, hi⟩ := List.getElem?_of_mem hm
     exact (dz i r hi).bd (by have := (List.getElem?_eq_some_iff.mp hi).1; omega)
end
end LW
namespace LW
open PySem L2 MA PyProof.Rows
section
variable {P : Program} {w : World} {K : PySem.W.Frag} {mg : Str → Option Value} {base : Heap}
theorem sc__law_spots : FnScope ["_law_feed_here", "_law_least", "_law_most", "_law_style", "_law_found", "_law_k", "_law_kind", "_law_spot_here"] ["_law_feed_here", "_law_least", "_law_most"] (defScope s__law_spots) := ⟨rfl, rfl, rfl, by decide +kernel, rfl, by decide +kernel, by decide +kernel⟩
set_option maxHeartbeats 0 in
theorem ok__law_spots {C : Cz} {f : Addr} {fd : FuncData} (F : Fun K "_law_spots" "_law_spots" s__law_spots f fd) (T : Txt P K mg C) (F__law_draw : FnB P w K mg base (CXE P w) 1 "_law_draw" ["_law_feed_here", "_law_many"] sp_draw) (F__law_spot : FnB P w K mg base (CXE P w) 2 "_law_spot" ["_law_feed_here", "_law_style"] sp_spot) (F__law_dozen : FnB P w K mg base (CXE P w) 2 "_law_dozen" ["_law_feed_here"] sp_dozen) : FnOk P w K mg base (CXE P w) 3 f fd ["_law_feed_here", "_law_least", "_law_most"] (sp_spots K) := by
 refine okN F (k := 2) sc__law_spots (fun vs H Q E h => ?_) (fun cdv A outer s H vs Q E hr h => ?_)
 ·obtain ⟨p, n0, m0, c, b, rfl, _⟩ := h
  rfl
 ·obtain ⟨p, n0, m0, c, b, rfl, h⟩ := h
  refine' ⟨_, ?main, ?rest⟩
  case main =>
   refine' pss_cut ?c1 ?c2
   case' c1 => refine' ps_if ?c3 ?c4 ?c5
   case' c3 => refine' PW.pt ?c6
   case' c6 => refine' pw_and ?c7 ?c8
   case' c7 => exact (pt_cmpF (OpR.f0 op_gt) (pvF 2) pe_int (nomark _))
   case' c8 => refine' pw_and1 ?c9
   case' c9 => refine' pt_cmpF op_eqI ?c10 pe_int (nomark _)
   case' c10 => refine' pe_fn F__law_draw (hr.mono (by decide)) rfl passE0 ?c11
   case' c11 => refine' pa_cons (pvF 0) ?c12
   case' c12 => exact (pa_cons pe_int pa_nil)
   case' c4 => refine' pss_one ?c13
   case' c13 => refine' ps_ret ?c14
   case' c14 => refine' pe_fn F__law_dozen (hr.mono (by decide)) rfl passE0 ?c15
   case' c15 => exact (pa_cons (pvF 0) pa_nil)
   case c5 => exact pss_nil
   case' c2 => refine' pss_cons ?c16 ?c17
   case' c16 => refine' ps_set (i := 3) sc__law_spots.nd rfl (Or.inl rfl) ?c18
   case' c18 => refine' pe_fn F__law_draw (hr.mono (by decide)) rfl passE0 ?c19
   case' c19 => refine' pa_cons (pvF 0) ?c20
   case' c20 => exact (pa_cons pe_int pa_nil)
   case' c17 => refine' pss_cons ?c21 ?c22
   case' c21 => refine' ps_set (i := 4) sc__law_spots.nd rfl (Or.inl rfl) ?c23
   case' c23 => exact (pe_lst pa_nil)
   case' c22 => refine' pss_cut ?c24 ?c25
   case' c24 => refine' ps_for ?c26 ?c27 ?c28 ?c29 ?c30
   case c26 => exact PassesOwn.never
   case c27 => exact rfl
   case' c28 => refine' pi_range1 rfl T.b_range ?c31
   case' c31 => refine' pa_cons ?c32 ?c33
   case' c32 => refine' pe_op (OpR.f0 op_add) (pvF 1) ?c34
   case' c34 => refine' pe_fn F__law_draw (hr.mono (by decide)) rfl passE0 ?c35
   case' c35 => refine' pa_cons (pvF 0) ?c36
   case' c36 => refine' pa_cons ?c37 pa_nil
   case' c37 => exact (pe_op (OpR.f0 op_add) (pe_op (OpR.f0 op_sub) (pvF 2) (pvF 1)) pe_int)
   case c33 => exact pa_nil
   case c29 => exact (pg_name (i := 5) sc__law_spots.nd rfl (Or.inl rfl))
   case' c30 => refine' pss_cons (ps_set (i := 6) sc__law_spots.nd rfl (Or.inl rfl) (pvF 3)) ?c38
   case' c38 => refine' pss_cut ?c39 ?c40
   case' c39 => refine' ps_if ?c41 ?c42 ?c43
   case' c41 => exact (pt_cmpF op_eqI (pvF 3) pe_int (nomark _))
   case' c42 => refine' pss_one ?c44
   case' c44 => refine' ps_set (i := 6) sc__law_spots.nd rfl (Or.inl rfl) ?c45
   case' c45 => refine' pe_fn F__law_draw (hr.mono (by decide)) rfl passE0 ?c46
   case' c46 => refine' pa_cons (pvF 0) ?c47
   case' c47 => exact (pa_cons pe_int pa_nil)
   case c43 => exact pss_nil
   case' c40 => refine' pss_cons ?c48 ?c49
   case' c48 => refine' ps_set (i := 7) sc__law_spots.nd rfl (Or.inl rfl) ?c50
   case' c50 => refine' pe_fn F__law_spot (hr.mono (by decide)) rfl passE0 ?c51
   case' c51 => refine' pa_cons (pvF 0) ?c52
   case' c52 => exact (pa_cons (pvF 6) pa_nil)
   case' c49 => refine' pss_one ?c53
   case' c53 => refine' ps_if (pt_cmpF (op_notInDK (K := K) rfl (hu65 hr)) (pvF 7) (pvF 4) (by with_unfolding_all rfl)) ?c54 pss_nil
   case' c54 => refine' pss_one ?c55
   case' c55 => refine' ps_expr ?c56
   case' c56 => refine' pe_app (pvF 4) ?c57
   case' c57 => exact (pa_cons (pvF 7) pa_nil)
   case' c25 => refine' pss_cons ?c58 ?c59
   case' c58 => refine' ps_while ?c60 ?c61 ?c62
   case c60 => exact PassesOwn.never
   case' c61 => refine' pt_cmpF (OpR.f0 op_lt) ?c63 (pvF 1) (nomark _)
   case' c63 => refine' pe_callB call_lenF (by rfl) T.b_len PySem.boot_len ?c64
   case' c64 => exact (pa_cons (pvF 4) pa_nil)
   case' c62 => refine' pss_one ?c65
   case' c65 => refine' ps_expr ?c66
   case' c66 => refine' pe_app ?c67 ?c68
   case c67 => exact (pvF 4)
   case' c68 => refine' pa_cons ?c69 ?c70
   case' c69 => refine' pe_tup ?c71
   case' c71 => refine' pa_cons ?c72 ?c73
   case' c72 => refine' pe_op ?c74 ?c75 ?c76
   case c74 => exact (OpR.f0 op_add)
   case c75 => exact pe_int
   case' c76 => refine' pe_callB ?c77 ?c78 ?c79 ?c80 ?c81
   case c77 => exact (call_maxL (K := K) rfl rfl)
   case c78 => exact (by rfl)
   case c79 => exact T.b_max
   case c80 => exact boot_max
   case' c81 => refine' pa_cons ?c82 ?c83
   case' c82 => refine' pe_lc (CScope.of_ok (dsc := defScope s__law_spots) (N0 := ["_law_feed_here", "_law_least", "_law_most", "_law_style", "_law_found", "_law_k", "_law_kind", "_law_spot_here"]) (N := ["_law_x", "_law_y"]) (k := 2) (js := []) rfl rfl (by decide +kernel)) rfl (pi_listK (K := K) rfl (pvF 4)) ?c84 ?c85 (fun _ _ _ _ _ _ => (pvF 0))
   case' c84 => intro _ _ _ _ _ _; refine' pg_F (n := 2) rfl ?c86
   case' c86 => refine' pgs_consF (pg_name (i := 0) (by show List.Nodup (["_law_x", "_law_y"] : List Str); decide +kernel) rfl (Or.inl rfl)) ?c87
   case' c87 => exact (pgs_consF (pg_name (i := 1) (by show List.Nodup (["_law_x", "_law_y"] : List Str); decide +kernel) rfl (Or.inl rfl)) pgs_nilF)
   case' c85 => intro _ _ _ _ _ _; exact pifs_nil
   case c83 => exact pa_nil
   case' c73 => refine' pa_cons ?c88 pa_nil
   case' c88 => refine' pe_ix ix_F ?c89 pe_int (fun _ _ => rfl)
   case' c89 => exact (pe_ix ix_F (pvF 4) pe_int (fun _ _ => rfl))
   case c70 => exact pa_nil
   case' c59 => exact (pss_one (ps_ret (pvF 4)))
  case rest =>
   obtain ⟨hF, hb, h1, h6, hnm, hm, h⟩ := h
   simp only [L2.start, List.map_cons, List.map_nil, List.length_cons, List.length_nil, Nat.reduceAdd, Nat.reduceSub, List.replicate_succ, List.replicate_zero, List.cons_append, List.nil_append, List.append_nil]
   refine ⟨fun σ H' => σ = [some (.ref p), some (.int n0), some (.int m0), none, none, none, none, none] ∧ DX c (b + 1) p H H', ?_, ?_⟩
   ·o_head ⟨sp_draw, sp_dozen⟩
    split
    ·refine ⟨c, _, hF, by omega, fun r H1 a1 a2 d1 => ?_⟩
     split
     ·refine ⟨c, _, d1.feed, by omega, fun D qs rs H2 d2 hD eD r2 nd l10 l12 bd => ?_⟩
      exact h D qs rs H2 ((d1.trans d2).mono (by omega)) (d1.none hD) eD r2 nd (by omega) l12 fun r hr' => by have := bd r hr'; omega
     ·exact d1
    ·exact (DX.refl hF).mono (by omega)
   ·rintro σ H1 ⟨rfl, d1⟩
    o_head ⟨sp_draw⟩
    refine ⟨c, _, d1.feed, by omega, fun st H2 s1 s2 d2 => ⟨by decide, fun L hL => ?_⟩⟩
    have dL := (d1.trans d2).upd (o := .lst []) hL
    have hL0 := (d1.trans d2).none hL
    have nLp := d2.feed.ne hL
    refine ⟨fun σ H' => ∃ (qs : List Addr) (rs : List P2) (o5 o6 o7 : Option V), σ = [some (.ref p), some (.int n0), some (.int m0), some (.int st), some (.ref L), o5, o6, o7] ∧ H' L = some (.lst (qs.map V.ref)) ∧ R2At H' qs rs ∧ rs.Nodup ∧ 0 < rs.length ∧ rs.length ≤ 12 ∧ WBd 12 rs ∧ DX c (b + 50) p H H', ?_, ?_⟩
    ·refine tfor_rangeH (fun n H' => n0 ≤ n ∧ n ≤ m0 ∧ H' L = some (.lst []) ∧ DX c (b + 4) p H H') ?_ ?_
     ·intro R hR
      o_head ⟨sp_draw⟩
      refine ⟨c, _, dL.feed, by omega, by omega, by omega, fun r H3 a1 a2 d3 => ?_⟩
      have := hR (n0 + r.toNat) H3 ⟨by omega, by omega, d3.keep _ _ nLp upd_same, (dL.trans d3).mono (by omega)⟩
      rw [show ((n0 + r.toNat : Nat) : Int) = n0 + r by omega] at this
      exact this
     ·rintro n H3 ⟨n1, n2, eL, d3⟩
      refine ⟨by omega, fun i σ H' => ∃ (qs : List Addr) (rs : List P2) (o5 o6 o7 : Option V), σ = [some (.ref p), some (.int n0), some (.int m0), some (.int st), some (.ref L), o5, o6, o7] ∧ H' L = some (.lst (qs.map V.ref)) ∧ R2At H' qs rs ∧ rs.Nodup ∧ (0 < i → 0 < rs.length) ∧ rs.length ≤ i ∧ WBd 12 rs ∧ DX c (b + 4 + 3 * i) p H H', ⟨[], [], _, _, _, rfl, eL, ⟨rfl, fun i q z a => by simp at a⟩, List.nodup_nil, fun z => absurd z (Nat.lt_irrefl _), Nat.le_refl _, fun r hr' => absurd hr' List.not_mem_nil, d3⟩, ?_, ?_⟩
      ·rintro i σ H4 hi ⟨qs, rs, o5, o6, o7, rfl, eL, r2, nd, z0, li, bd, d4⟩
       walk_at "RD"
       refine ⟨fun σ H' => ∃ kd : Int, σ = [some (.ref p), some (.int n0), some (.int m0), some (.int st), some (.ref L), some (.int (0 + (i : Int))), some (.int kd), o7] ∧ 0 ≤ kd ∧ kd ≤ 5 ∧ H' L = some (.lst (qs.map V.ref)) ∧ R2At H' qs rs ∧ DX c (b + 4 + 3 * i + 1) p H H', ?_, ?_⟩
       ·o_head ⟨sp_draw⟩
        split
        ·exact ⟨c, _, d4.feed, by omega, fun r H5 a1 a2 d5 => ⟨a1, by omega, d5.keep _ _ nLp eL, r2.dx d4.feed d5, d4.trans d5⟩⟩
        ·exact ⟨s1, by omega, eL, r2, d4.mono (by omega)⟩
       ·rintro σ H5 ⟨kd, rfl, k0, k5, eL, r2, d5⟩
        o_head ⟨sp_spot⟩
        refine ⟨c, _, d5.feed, by omega, k0, k5, fun t x y H6 d6 et hx hy => ?_⟩
        have eL6 := d6.keep _ _ nLp eL
        have r6 := r2.dx d5.feed d6
        refine ⟨t2d (x, y), rs.map t2d, rdy_t2 et, .lst (SqL.of eL6) (rdy_rs r6), shaped_t2 _, shaped_rs _, fun y' hy' => ?_, ?_⟩
        ·obtain ⟨z, _, rfl⟩ := List.mem_map.mp hy'
         exact nomix_t2 _ _
        ·rw [inD_rs]
         dsimp only
         have d56 := d5.trans d6
         by_cases hm' : (x, y) ∈ rs
         ·rw [decide_eq_true hm', if_neg (by simp)]
          exact ⟨⟨_, rfl⟩, qs, eL6, rs, r6, nd, fun _ => List.length_pos_of_mem hm', by omega, bd, d56.mono (by omega)⟩
         ·rw [decide_eq_false hm', if_pos (by simp), eL6, lstOf_l, optK_some]
          refine ⟨rfl, by rw [List.length_map, r6.1]; omega, ⟨_, rfl⟩, qs ++ [t], by rw [List.map_append]; rfl, rs ++ [(x, y)], (r6.append (R2At.one et)).setL eL6, nodup_snoc nd hm', fun _ => by rw [List.length_append]; exact Nat.succ_pos _, ?_, bd.snoc ⟨hx, hy⟩, (d56.mono (by omega)).set hL0 hF⟩
          rw [List.length_append]
          show _ + 1 ≤ _
          omega
      ·rintro σ H4 ⟨qs, rs, o5, o6, o7, rfl, eL, r2, nd, z0, li, bd, d4⟩
       exact ⟨qs, rs, o5, o6, o7, rfl, eL, r2, nd, z0 (by omega), by omega, bd, d4.mono (by omega)⟩
    ·rintro σ H3 ⟨qs, rs, o5, o6, o7, rfl, eL, r2, nd, z0, li, bd, d3⟩
     walk_at "RD"
     refine ⟨fun m σ H' => ∃ (qs : List Addr) (rs : List P2), σ = [some (.ref p), some (.int n0), some (.int m0), some (.int st), some (.ref L), o5, o6, o7] ∧ H' L = some (.lst (qs.map V.ref)) ∧ R2At H' qs rs ∧ rs.Nodup ∧ 0 < rs.length ∧ rs.length ≤ 12 ∧ WBd (12 + rs.length) rs ∧ DX c (b + 50) p H H' ∧ m = 12 - rs.length, ⟨_, qs, rs, rfl, eL, r2, nd, z0, li, bd.mono (by omega), d3, rfl⟩, ?_⟩
     rintro m σ H4 ⟨qs, rs, rfl, eL, r2, nd, z0, li, bd, d4, rfl⟩
     have lq : (qs.map V.ref).length = rs.length := by rw [List.length_map, r2.1]
     o_head ⟨eL, lq⟩
     by_cases hlt : (rs.length : Int) < n0
     ·rw [if_pos hlt]
      refine ⟨fun σ' H' => ∃ (qs' : List Addr) (rs' : List P2), σ' = [some (.ref p), some (.int n0), some (.int m0), some (.int st), some (.ref L), o5, o6, o7] ∧ H' L = some (.lst (qs'.map V.ref)) ∧ R2At H' qs' rs' ∧ rs'.Nodup ∧ 0 < rs'.length ∧ rs'.length ≤ 12 ∧ WBd (12 + rs'.length) rs' ∧ DX c (b + 50) p H H' ∧ rs'.length = rs.length + 1, ?_, ?_⟩
      ·rintro σ' H' ⟨qs', rs', rfl, g1, g2, g3, g4, g5, g6, g7, g8⟩
       exact ⟨12 - rs'.length, by omega, rfl, qs', g1, rs', g2, g3, g4, g5, g6, g7, rfl⟩
      ·refine tlc_list (K := K) (a := L) (xs := qs.map V.ref) (fun R h => by walk_at "RD"; exact h) (SqL.of eL) (by omega) (fun D i ys H' => ys = ((rs.take i).map (·.1)).map V.int ∧ H' D = some (.lst ys) ∧ Ext H4 H') ?_ ?_ ?_ ?_
       ·intro D hD
        exact ⟨rfl, upd_same, .upd hD⟩
       ·rintro D i ys H5 _ ⟨rfl, e5, x5⟩
        refine ⟨e5, ?_, SqL.of (x5 _ _ eL)⟩
        rw [List.length_map, List.length_map, List.length_take]
        omega
       ·rintro D i w1 ys H5 hD hi ⟨rfl, e5, x5⟩
        obtain ⟨q, hq, rfl⟩ := refs_get hi
        obtain ⟨r, hr1, hr2⟩ := r2.at hq
        o_head ⟨gSeqF, gCons, gNil, x5 _ _ hr2⟩
        refine ⟨e5, ?_, x5.set hD⟩
        rw [List.take_succ, hr1, List.map_append, List.map_append]
        rfl
       ·rintro D ys H5 hD ⟨rfl, e5, x5⟩
        rw [lq, List.take_length] at e5
        refine ⟨D, rs.map (·.1), rfl, SqL.of e5, by rw [List.length_map]; exact z0, fun M hM hmax => ?_⟩
        obtain ⟨r0, hr0⟩ : ∃ r, rs[0]? = some r := ⟨_, List.getElem?_eq_getElem z0⟩
        obtain ⟨q0, hq0⟩ : ∃ q, qs[0]? = some q := ⟨_, List.getElem?_eq_getElem (by rw [r2.1]; exact z0)⟩
        have e0 := x5 _ _ (r2.2 0 q0 r0 hq0 hr0)
        have a0 : atI (qs.map V.ref) 0 = some (.ref q0) := atI_nat (j := 0) (by rw [List.getElem?_map, hq0]; rfl)
        o_head ⟨x5 _ _ eL, a0, e0⟩
        refine ⟨by decide, fun t ht => ?_⟩
        have e6 := upd_f (o := .tup [.int (1 + M), .int r0.2]) ht (x5 _ _ eL)
        rw [e6, lstOf_l, optK_some]
        have nin : (1 + M, r0.2) ∉ rs := fun z => by
         have := hmax (1 + M) (List.mem_map.mpr ⟨_, z, rfl⟩)
         omega
        obtain ⟨rM, hrM, eM⟩ := List.mem_map.mp hM
        have bM := bd rM hrM
        have b0 := bd r0 (List.mem_of_getElem? hr0)
        have ll : (rs ++ [(1 + M, r0.2)]).length = rs.length + 1 := by rw [List.length_append]; rfl
        have W : WBd (12 + ((rs ++ [(1 + M, r0.2)]).length : Int)) (rs ++ [(1 + M, r0.2)]) := by
         rw [ll]
         exact (bd.mono (by omega)).snoc ⟨by dsimp only; omega, by dsimp only; omega⟩
        refine ⟨by rw [List.length_map, r2.1]; omega, qs ++ [t], by rw [List.map_append]; rfl, rs ++ [(1 + M, r0.2)], ((((r2.ext x5).ext (Ext.upd ht)).append (R2At.one (r := (1 + M, r0.2)) upd_same)).setL e6), nodup_snoc nd nin, by omega, by omega, W, ((d4.ext x5).upd ht).set hL0 hF, ll⟩
     ·rw [if_neg hlt]
      exact h L qs rs H4 (d4.mono (by omega)) hL0 eL r2 nd (by omega) li (bd.mono (by omega))
end
end LW
namespace LW
open PySem L2 MA PyProof.Rows
section
variable {P : Program} {w : World} {K : PySem.W.Frag} {mg : Str → Option Value} {base : Heap}
theorem sc__law_world : FnScope ["_law_feed_here", "_law_least", "_law_most", "_law_small", "_law_times", "_law_right_here", "_law_up", "_law_edge", "_law_xs", "_law_ys", "_law_wide", "_law_high", "_law_box"] ["_law_feed_here", "_law_least", "_law_most"] (defScope s__law_world) := ⟨rfl, rfl, rfl, by decide +kernel, rfl, by decide +kernel, by decide +kernel⟩
set_option maxHeartbeats 0 in
theorem ok__law_world {C : Cz} {f : Addr} {fd : FuncData} (F : Fun K "_law_world" "_law_world" s__law_world f fd) (T : Txt P K mg C) (F__law_draw : FnB P w K mg base (CXE P w) 1 "_law_draw" ["_law_feed_here", "_law_many"] sp_draw) (F__law_scale : FnB P w K mg base (CXE P w) 3 "_law_scale" ["_law_feed_here"] sp_scale) (F__law_spots : FnB P w K mg base (CXE P w) 3 "_law_spots" ["_law_feed_here", "_law_least", "_law_most"] (sp_spots K)) : FnOk P w K mg base (CXE P w) 4 f fd ["_law_feed_here", "_law_least", "_law_most"] (sp_world K) := by
 refine okN F (k := 3) sc__law_world (fun vs H Q E h => ?_) (fun cdv A outer s H vs Q E hr h => ?_)
 ·obtain ⟨p, n0, m0, c, b, rfl, _⟩ := h
  rfl
 ·obtain ⟨p, n0, m0, c, b, rfl, h⟩ := h
  refine' ⟨_, ?main, ?rest⟩
  case main =>
   refine' pss_cons ?c1 ?c2
   case' c1 => refine' ps_set (i := 3) sc__law_world.nd rfl (Or.inl rfl) ?c3
   case' c3 => refine' pe_fn F__law_spots (hr.mono (by decide)) rfl passE0 ?c4
   case' c4 => refine' pa_cons (pvF 0) ?c5
   case' c5 => refine' pa_cons (pvF 1) ?c6
   case' c6 => exact (pa_cons (pvF 2) pa_nil)
   case' c2 => refine' pss_cut ?c7 ?c8
   case' c7 => refine' ps_asg ?c9 ?c10
   case' c9 => refine' pe_fn F__law_scale (hr.mono (by decide)) rfl passE0 ?c11
   case' c11 => exact (pa_cons (pvF 0) pa_nil)
   case' c10 => refine' pg_F (n := 3) rfl ?c12
   case' c12 => refine' pgs_consF (pg_name (i := 4) sc__law_world.nd rfl (Or.inr rfl)) ?c13
   case' c13 => refine' pgs_consF (pg_name (i := 5) sc__law_world.nd rfl (Or.inr rfl)) ?c14
   case' c14 => exact (pgs_consF (pg_name (i := 6) sc__law_world.nd rfl (Or.inr rfl)) pgs_nilF)
   case' c8 => refine' pss_cut ?c15 ?c16
   case' c15 => refine' ps_lc (i := 7) ?c17 ?c18 ?c19 ?c20 ?c21 ?c22 ?c23 ?c24 ?c25
   case c17 => exact (CScope.of_ok (dsc := defScope s__law_world) (N0 := ["_law_feed_here", "_law_least", "_law_most", "_law_small", "_law_times", "_law_right_here", "_law_up", "_law_edge", "_law_xs", "_law_ys", "_law_wide", "_law_high", "_law_box"]) (N := ["_law_k", "_law_feed_here"]) (k := 1) (js := [0]) rfl rfl (by decide +kernel))
   case c18 => exact rfl
   case' c19 => refine' pi_range1 rfl T.b_range ?c26
   case' c26 => exact (pa_cons pe_int pa_nil)
   case' c20 => intro _ _ _ _ _ _; exact (pg_name (i := 0) (by show List.Nodup (["_law_k", "_law_feed_here"] : List Str); decide +kernel) rfl (Or.inl rfl))
   case' c21 => intro _ _ _ _ _ _; exact pifs_nil
   case' c22 => intro _ _ _ _ _ _; refine' pe_ix ?c27 ?c28 ?c29 ?c30
   case c27 => exact ix_F
   case' c28 => refine' pe_lst ?c31
   case' c31 => refine' pa_cons pe_int ?c32
   case' c32 => refine' pa_cons pe_int ?c33
   case' c33 => refine' pa_cons pe_int ?c34
   case' c34 => exact (pa_cons pe_int pa_nil)
   case' c29 => refine' pe_fn F__law_draw (hr.mono (by decide)) rfl passE0 ?c35
   case' c35 => refine' pa_cons (pvF 1) ?c36
   case' c36 => exact (pa_cons pe_int pa_nil)
   case c30 => exact (fun _ _ => rfl)
   case c23 => exact sc__law_world.nd
   case c24 => exact rfl
   case c25 => exact rfl
   case' c16 => refine' pss_cut ?c37 ?c38
   case' c37 => refine' ps_lc (i := 8) ?c39 ?c40 ?c41 ?c42 ?c43 ?c44 ?c45 ?c46 ?c47
   case c39 => exact (CScope.of_ok (dsc := defScope s__law_world) (N0 := ["_law_feed_here", "_law_least", "_law_most", "_law_small", "_law_times", "_law_right_here", "_law_up", "_law_edge", "_law_xs", "_law_ys", "_law_wide", "_law_high", "_law_box"]) (N := ["_law_x", "_law_y"]) (k := 2) (js := []) rfl rfl (by decide +kernel))
   case c40 => exact rfl
   case c41 => exact (pi_listK (K := K) rfl (pvF 3))
   case' c42 => intro _ _ _ _ _ _; refine' pg_F (n := 2) rfl ?c48
   case' c48 => refine' pgs_consF (pg_name (i := 0) (by show List.Nodup (["_law_x", "_law_y"] : List Str); decide +kernel) rfl (Or.inl rfl)) ?c49
   case' c49 => exact (pgs_consF (pg_name (i := 1) (by show List.Nodup (["_law_x", "_law_y"] : List Str); decide +kernel) rfl (Or.inl rfl)) pgs_nilF)
   case' c43 => intro _ _ _ _ _ _; exact pifs_nil
   case c44 => exact (fun _ _ _ _ _ _ => (pvF 0))
   case c45 => exact sc__law_world.nd
   case c46 => exact rfl
   case c47 => exact rfl
   case' c38 => refine' pss_cut ?c50 ?c51
   case' c50 => refine' ps_lc (i := 9) ?c52 ?c53 ?c54 ?c55 ?c56 ?c57 ?c58 ?c59 ?c60
   case c52 => exact (CScope.of_ok (dsc := defScope s__law_world) (N0 := ["_law_feed_here", "_law_least", "_law_most", "_law_small", "_law_times", "_law_right_here", "_law_up", "_law_edge", "_law_xs", "_law_ys", "_law_wide", "_law_high", "_law_box"]) (N := ["_law_x", "_law_y"]) (k := 2) (js := []) rfl rfl (by decide +kernel))
   case c53 => exact rfl
   case c54 => exact (pi_listK (K := K) rfl (pvF 3))
   case' c55 => intro _ _ _ _ _ _; refine' pg_F (n := 2) rfl ?c61
   case' c61 => refine' pgs_consF (pg_name (i := 0) (by show List.Nodup (["_law_x", "_law_y"] : List Str); decide +kernel) rfl (Or.inl rfl)) ?c62
   case' c62 => exact (pgs_consF (pg_name (i := 1) (by show List.Nodup (["_law_x", "_law_y"] : List Str); decide +kernel) rfl (Or.inl rfl)) pgs_nilF)
   case' c56 => intro _ _ _ _ _ _; exact pifs_nil
   case c57 => exact (fun _ _ _ _ _ _ => (pvF 1))
   case c58 => exact sc__law_world.nd
   case c59 => exact rfl
   case c60 => exact rfl
   case' c51 => refine' pss_cut ?c63 ?c64
   case' c63 => refine' ps_set (i := 10) ?c65 ?c66 ?c67 ?c68
   case c65 => exact sc__law_world.nd
   case c66 => exact rfl
   case c67 => exact (Or.inl rfl)
   case' c68 => refine' pe_op ?c69 ?c70 ?c71
   case c69 => exact (OpR.f0 op_add)
   case' c70 => refine' pe_op (OpR.f0 op_add) ?c72 ?c73
   case' c72 => refine' pe_callB (call_maxL (K := K) rfl rfl) (by rfl) T.b_max boot_max ?c74
   case' c74 => exact (pa_cons (pvF 8) pa_nil)
   case' c73 => exact (pe_ix ix_F (pvF 7) pe_int (fun _ _ => rfl))
   case' c71 => refine' pe_callTy ?c75 ?c76 ?c77 ?c78 ?c79
   case c75 => exact call_int1
   case c76 => exact (by rfl)
   case c77 => exact T.b_int
   case c78 => exact boot_int
   case' c79 => refine' pa_cons ?c80 ?c81
   case' c80 => refine' pe_cmpR ?c82 ?c83 ?c84 ?c85
   case c82 => exact op_eqI
   case' c83 => refine' pe_op (OpR.f0 op_add) ?c86 ?c87
   case' c86 => refine' pe_callB (call_maxL (K := K) rfl rfl) (by rfl) T.b_max boot_max ?c88
   case' c88 => exact (pa_cons (pvF 8) pa_nil)
   case' c87 => exact (pe_ix ix_F (pvF 7) pe_int (fun _ _ => rfl))
   case' c84 => refine' pe_op (OpR.f0 op_sub) ?c89 ?c90
   case' c89 => refine' pe_callB (call_minL (K := K) rfl rfl) (by rfl) T.b_min boot_min ?c91
   case' c91 => exact (pa_cons (pvF 8) pa_nil)
   case' c90 => exact (pe_ix ix_F (pvF 7) pe_int (fun _ _ => rfl))
   case c85 => exact (nomark _)
   case c81 => exact pa_nil
   case' c64 => refine' pss_cut ?c92 ?c93
   case' c92 => refine' ps_set (i := 11) ?c94 ?c95 ?c96 ?c97
   case c94 => exact sc__law_world.nd
   case c95 => exact rfl
   case c96 => exact (Or.inl rfl)
   case' c97 => refine' pe_op ?c98 ?c99 ?c100
   case c98 => exact (OpR.f0 op_add)
   case' c99 => refine' pe_op (OpR.f0 op_add) ?c101 ?c102
   case' c101 => refine' pe_callB (call_maxL (K := K) rfl rfl) (by rfl) T.b_max boot_max ?c103
   case' c103 => exact (pa_cons (pvF 9) pa_nil)
   case' c102 => exact (pe_ix ix_F (pvF 7) pe_int (fun _ _ => rfl))
   case' c100 => refine' pe_callTy ?c104 ?c105 ?c106 ?c107 ?c108
   case c104 => exact call_int1
   case c105 => exact (by rfl)
   case c106 => exact T.b_int
   case c107 => exact boot_int
   case' c108 => refine' pa_cons ?c109 ?c110
   case' c109 => refine' pe_cmpR ?c111 ?c112 ?c113 ?c114
   case c111 => exact op_eqI
   case' c112 => refine' pe_op (OpR.f0 op_add) ?c115 ?c116
   case' c115 => refine' pe_callB (call_maxL (K := K) rfl rfl) (by rfl) T.b_max boot_max ?c117
   case' c117 => exact (pa_cons (pvF 9) pa_nil)
   case' c116 => exact (pe_ix ix_F (pvF 7) pe_int (fun _ _ => rfl))
   case' c113 => refine' pe_op (OpR.f0 op_sub) ?c118 ?c119
   case' c118 => refine' pe_callB (call_minL (K := K) rfl rfl) (by rfl) T.b_min boot_min ?c120
   case' c120 => exact (pa_cons (pvF 9) pa_nil)
   case' c119 => exact (pe_ix ix_F (pvF 7) pe_int (fun _ _ => rfl))
   case c114 => exact (nomark _)
   case c110 => exact pa_nil
   case' c93 => refine' pss_cut ?c121 ?c122
   case' c121 => refine' ps_set (i := 12) ?c123 ?c124 ?c125 ?c126
   case c123 => exact sc__law_world.nd
   case c124 => exact rfl
   case c125 => exact (Or.inl rfl)
   case' c126 => refine' pe_tup ?c127
   case' c127 => refine' pa_cons ?c128 ?c129
   case' c128 => refine' pe_op (OpR.f0 op_add) ?c130 (pvF 5)
   case' c130 => refine' pe_op (OpR.f op_mulA) ?c131 (pvF 4)
   case' c131 => refine' pe_op (OpR.f0 op_sub) ?c132 ?c133
   case' c132 => refine' pe_callB (call_minL (K := K) rfl rfl) (by rfl) T.b_min boot_min ?c134
   case' c134 => exact (pa_cons (pvF 8) pa_nil)
   case' c133 => exact (pe_ix ix_F (pvF 7) pe_int (fun _ _ => rfl))
   case' c129 => refine' pa_cons ?c135 ?c136
   case' c135 => refine' pe_op (OpR.f0 op_add) ?c137 (pvF 6)
   case' c137 => refine' pe_op (OpR.f op_mulA) ?c138 (pvF 4)
   case' c138 => refine' pe_op (OpR.f0 op_sub) ?c139 ?c140
   case' c139 => refine' pe_callB (call_minL (K := K) rfl rfl) (by rfl) T.b_min boot_min ?c141
   case' c141 => exact (pa_cons (pvF 9) pa_nil)
   case' c140 => exact (pe_ix ix_F (pvF 7) pe_int (fun _ _ => rfl))
   case' c136 => refine' pa_cons ?c142 ?c143
   case' c142 => exact (pe_op (OpR.f0 op_add) (pe_op (OpR.f op_mulA) (pvF 10) (pvF 4)) (pvF 5))
   case' c143 => refine' pa_cons ?c144 pa_nil
   case' c144 => exact (pe_op (OpR.f0 op_add) (pe_op (OpR.f op_mulA) (pvF 11) (pvF 4)) (pvF 6))
   case' c122 => refine' pss_one ?c145
   case' c145 => refine' ps_ret ?c146
   case' c146 => refine' pe_tup ?c147
   case' c147 => refine' pa_cons ?c148 ?c149
   case c148 => exact (pvF 12)
   case' c149 => refine' pa_cons ?c150 ?c151
   case' c150 => refine' pe_lc (CScope.of_ok (dsc := defScope s__law_world) (N0 := ["_law_feed_here", "_law_least", "_law_most", "_law_small", "_law_times", "_law_right_here", "_law_up", "_law_edge", "_law_xs", "_law_ys", "_law_wide", "_law_high", "_law_box"]) (N := ["_law_x", "_law_y", "_law_right_here", "_law_up", "_law_times"]) (k := 2) (js := [5, 6, 4]) rfl rfl (by decide +kernel)) rfl (pi_listK (K := K) rfl (pvF 3)) ?c152 ?c153 ?c154
   case' c152 => intro _ _ _ _ _ _; refine' pg_F (n := 2) rfl ?c155
   case' c155 => refine' pgs_consF (pg_name (i := 0) (by show List.Nodup (["_law_x", "_law_y", "_law_right_here", "_law_up", "_law_times"] : List Str); decide +kernel) rfl (Or.inl rfl)) ?c156
   case' c156 => exact (pgs_consF (pg_name (i := 1) (by show List.Nodup (["_law_x", "_law_y", "_law_right_here", "_law_up", "_law_times"] : List Str); decide +kernel) rfl (Or.inl rfl)) pgs_nilF)
   case' c153 => intro _ _ _ _ _ _; exact pifs_nil
   case' c154 => intro _ _ _ _ _ _; refine' pe_tup ?c157
   case' c157 => refine' pa_cons ?c158 ?c159
   case' c158 => exact (pe_op (OpR.f0 op_add) (pe_op (OpR.f op_mulA) (pvF 0) (pvF 4)) (pvF 2))
   case' c159 => refine' pa_cons ?c160 pa_nil
   case' c160 => exact (pe_op (OpR.f0 op_add) (pe_op (OpR.f op_mulA) (pvF 1) (pvF 4)) (pvF 3))
   case c151 => exact pa_nil
  case rest =>
   obtain ⟨hF, hb, h1, h6, hnm, hm, h⟩ := h
   simp only [L2.start, List.map_cons, List.map_nil, List.length_cons, List.length_nil, Nat.reduceAdd, Nat.reduceSub, List.replicate_succ, List.replicate_zero, List.cons_append, List.nil_append, List.append_nil]
   o_head ⟨sp_spots⟩
   refine ⟨n0, rfl, m0, rfl, c, b, hF, by omega, h1, h6, hnm, hm, fun L qs rs H1 d1 hL eL r2 nd l0 l12 bd => ?_⟩
   have lq : (qs.map V.ref).length = rs.length := by rw [List.length_map, r2.1]
   have nLp := d1.feed.lst eL
   refine ⟨fun σ H' => ∃ m r u : Int, σ = [some (.ref p), some (.int n0), some (.int m0), some (.ref L), some (.int m), some (.int r), some (.int u), none, none, none, none, none, none] ∧ H' L = some (.lst (qs.map V.ref)) ∧ R2At H' qs rs ∧ (1 ≤ m ∧ m ≤ 10 ^ 20) ∧ (-(10 ^ 25) ≤ r ∧ r ≤ 10 ^ 25) ∧ (-(10 ^ 25) ≤ u ∧ u ≤ 10 ^ 25) ∧ DX c (b + 85) p H H', ?_, ?_⟩
   ·o_head ⟨sp_scale⟩
    refine ⟨c, _, d1.feed, by omega, fun t m r u H2 d2 et hm' hr' hu => ?_⟩
    o_head ⟨gSeqF, gCons, gNil, et⟩
    exact ⟨d2.keep _ _ nLp eL, r2.dx d1.feed d2, hm'.1, hm'.2, hr'.1, hr'.2, hu.1, hu.2, (d1.trans d2).mono (by omega)⟩
   ·rintro σ H2 ⟨m, r, u, rfl, eL, r2, ⟨m1, m2⟩, hr', hu, d2⟩
    refine ⟨fun σ H' => ∃ (E : Addr) (e0 e1 e2 e3 : Int), σ = [some (.ref p), some (.int n0), some (.int m0), some (.ref L), some (.int m), some (.int r), some (.int u), some (.ref E), none, none, none, none, none] ∧ H' E = some (.lst [.int e0, .int e1, .int e2, .int e3]) ∧ ((0 ≤ e0 ∧ e0 ≤ 7) ∧ (0 ≤ e1 ∧ e1 ≤ 7) ∧ (0 ≤ e2 ∧ e2 ≤ 7) ∧ (0 ≤ e3 ∧ e3 ≤ 7)) ∧ H' L = some (.lst (qs.map V.ref)) ∧ R2At H' qs rs ∧ DX c (b + 90) p H H', ?_, ?_⟩
    ·walk_at "RD"
     refine tlc_range 4 (fun R h => h) (by decide) (fun D i ys H' => H' D = some (.lst ys) ∧ ys.length = i ∧ D ≠ p ∧ (∀ v ∈ ys, ∃ e : Int, v = .int e ∧ 0 ≤ e ∧ e ≤ 7) ∧ DX c (b + 85 + i) p H2 H') ?_ ?_ ?_ ?_
     ·intro D hD
      exact ⟨upd_same, rfl, d2.feed.ne hD, fun v hv => absurd hv List.not_mem_nil, (DX.refl d2.feed).upd hD⟩
     ·rintro D i ys H3 _ ⟨e3, l3, _⟩
      exact ⟨e3, by omega⟩
     ·rintro D i ys H3 hD hi ⟨e3, l3, nD, hv, d3⟩
      o_head ⟨sp_draw⟩
      refine ⟨by decide, fun t ht => ⟨c, _, d3.feed.upd ht, by omega, fun k H4 a1 a2 d4 => ?_⟩⟩
      have et := d4.keep t _ (d3.feed.ne ht) upd_same
      have eD := d4.keep D _ nD (upd_f ht e3)
      obtain ⟨x, hx, hp1, hp2⟩ := atI_four (a := 0) (b := 1) (c := 0) (d := 7) (fun x => 0 ≤ x ∧ x ≤ 7) (by decide) (by decide) (by decide) (by decide) a1 a2
      o_head ⟨et, hx⟩
      refine ⟨eD, by rw [List.length_append, l3]; rfl, nD, fun v hv' => ?_, (((d3.upd ht).trans d4).mono (by omega)).set hD d2.feed⟩
      rcases List.mem_append.mp hv' with q | q
      ·exact hv v q
      ·exact ⟨x, by simpa using q, hp1, hp2⟩
     ·rintro D ys H3 hD ⟨e3, l3, nD, hv, d3⟩
      obtain ⟨e0, e1, e2, e3', rfl, f0, f1, f2, f3⟩ := four_ints l3 hv
      walk_at "RD"
      exact ⟨e0, e1, e2, e3', e3, f0.1, f0.2, f1.1, f1.2, f2.1, f2.2, f3.1, f3.2, d3.keep _ _ (d2.feed.lst eL) eL, r2.dx d2.feed d3, (d2.trans d3).mono (by omega)⟩
    ·rintro σ H3 ⟨E, e0, e1, e2, e3, rfl, eE, ⟨f0, f1, f2, f3⟩, eL, r2, d3⟩
     refine ⟨fun σ H' => ∃ X : Addr, σ = [some (.ref p), some (.int n0), some (.int m0), some (.ref L), some (.int m), some (.int r), some (.int u), some (.ref E), some (.ref X), none, none, none, none] ∧ H' X = some (.lst ((rs.map (·.1)).map V.int)) ∧ Ext H3 H', ?_, ?_⟩
     ·walk_at "RD"
      refine tlc_list (K := K) (a := L) (xs := qs.map V.ref) (fun R h => by walk_at "RD"; exact h) (SqL.of eL) (by rw [lq]; omega) (fun D i ys H' => ys = ((rs.take i).map (·.1)).map V.int ∧ H' D = some (.lst ys) ∧ Ext H3 H') ?_ ?_ ?_ ?_
      ·intro D hD
       exact ⟨rfl, upd_same, .upd hD⟩
      ·rintro D i ys H5 _ ⟨rfl, e5, x5⟩
       refine ⟨e5, ?_, SqL.of (x5 _ _ eL)⟩
       rw [List.length_map, List.length_map, List.length_take]
       omega
      ·rintro D i w1 ys H5 hD hi ⟨rfl, e5, x5⟩
       obtain ⟨q, hq, rfl⟩ := refs_get hi
       obtain ⟨z, hr1, hr2⟩ := r2.at hq
       o_head ⟨gSeqF, gCons, gNil, x5 _ _ hr2⟩
       refine ⟨e5, ?_, x5.set hD⟩
       rw [List.take_succ, hr1, List.map_append, List.map_append]
       rfl
      ·rintro D ys H5 hD ⟨rfl, e5, x5⟩
       rw [lq, List.take_length] at e5
       walk_at "RD"
       exact ⟨e5, x5⟩
     ·rintro σ H4 ⟨X, rfl, eX, x4⟩
      replace eL := x4 _ _ eL
      replace r2 := r2.ext x4
      refine ⟨fun σ H' => ∃ Y : Addr, σ = [some (.ref p), some (.int n0), some (.int m0), some (.ref L), some (.int m), some (.int r), some (.int u), some (.ref E), some (.ref X), some (.ref Y), none, none, none] ∧ H' Y = some (.lst ((rs.map (·.2)).map V.int)) ∧ Ext H4 H', ?_, ?_⟩
      ·walk_at "RD"
       refine tlc_list (K := K) (a := L) (xs := qs.map V.ref) (fun R h => by walk_at "RD"; exact h) (SqL.of eL) (by rw [lq]; omega) (fun D i ys H' => ys = ((rs.take i).map (·.2)).map V.int ∧ H' D = some (.lst ys) ∧ Ext H4 H') ?_ ?_ ?_ ?_
       ·intro D hD
        exact ⟨rfl, upd_same, .upd hD⟩
       ·rintro D i ys H5 _ ⟨rfl, e5, x5⟩
        refine ⟨e5, ?_, SqL.of (x5 _ _ eL)⟩
        rw [List.length_map, List.length_map, List.length_take]
        omega
       ·rintro D i w1 ys H5 hD hi ⟨rfl, e5, x5⟩
        obtain ⟨q, hq, rfl⟩ := refs_get hi
        obtain ⟨z, hr1, hr2⟩ := r2.at hq
        o_head ⟨gSeqF, gCons, gNil, x5 _ _ hr2⟩
        refine ⟨e5, ?_, x5.set hD⟩
        rw [List.take_succ, hr1, List.map_append, List.map_append]
        rfl
       ·rintro D ys H5 hD ⟨rfl, e5, x5⟩
        rw [lq, List.take_length] at e5
        walk_at "RD"
        exact ⟨e5, x5⟩
      ·rintro σ H5 ⟨Y, rfl, eY, x5⟩
       replace eL := x5 _ _ eL
       replace r2 := r2.ext x5
       replace eX := x5 _ _ eX
       replace eE := x5 _ _ (x4 _ _ eE)
       have n1 : 0 < (rs.map (·.1)).length := by rw [List.length_map]; omega
       have n2 : 0 < (rs.map (·.2)).length := by rw [List.length_map]; omega
       have mx : ∀ M, M ∈ rs.map (·.1) → 0 ≤ M ∧ M ≤ 24 := fun M hM => by
        obtain ⟨z, hz, rfl⟩ := List.mem_map.mp hM
        exact (bd z hz).1
       have my : ∀ M, M ∈ rs.map (·.2) → 0 ≤ M ∧ M ≤ 12 := fun M hM => by
        obtain ⟨z, hz, rfl⟩ := List.mem_map.mp hM
        exact (bd z hz).2
       refine ⟨fun σ H' => ∃ wd : Int, σ = [some (.ref p), some (.int n0), some (.int m0), some (.ref L), some (.int m), some (.int r), some (.int u), some (.ref E), some (.ref X), some (.ref Y), some (.int wd), none, none] ∧ H' = H5 ∧ (∀ a ∈ rs.map (·.1), a ≤ wd) ∧ (∀ N ∈ rs.map (·.1), (∀ a ∈ rs.map (·.1), N ≤ a) → N - e0 < wd) ∧ wd ≤ 40, ?_, ?_⟩
       ·o_head ⟨eE⟩
        refine ⟨X, _, rfl, SqL.of eX, n1, fun M hM hmax => ?_⟩
        o_head ⟨eE⟩
        refine ⟨X, _, rfl, SqL.of eX, n1, fun M2 hM2 hmax2 => ?_⟩
        o_head ⟨eE⟩
        refine ⟨X, _, rfl, SqL.of eX, n1, fun N hN hmin => ?_⟩
        o_head ⟨eE⟩
        have e12 : M2 = M := by have := hmax M2 hM2; have := hmax2 M hM; omega
        subst e12
        have bM := mx M2 hM
        refine ⟨fun a ha => ?_, fun N' hN' hmin' => ?_, ?_⟩
        ·have := hmax a ha
         split <;> omega
        ·have := hmin' N hN
         have := hmin N' hN'
         have := hmax N' hN'
         split <;> omega
        ·split <;> omega
       ·rintro σ H6 ⟨wd, rfl, rfl, wmax, wmin, w40⟩
        refine ⟨fun σ H' => ∃ hg : Int, σ = [some (.ref p), some (.int n0), some (.int m0), some (.ref L), some (.int m), some (.int r), some (.int u), some (.ref E), some (.ref X), some (.ref Y), some (.int wd), some (.int hg), none] ∧ H' = H6 ∧ (∀ a ∈ rs.map (·.2), a ≤ hg) ∧ (∀ N ∈ rs.map (·.2), (∀ a ∈ rs.map (·.2), N ≤ a) → N - e1 < hg) ∧ hg ≤ 40, ?_, ?_⟩
        ·o_head ⟨eE⟩
         refine ⟨Y, _, rfl, SqL.of eY, n2, fun M hM hmax => ?_⟩
         o_head ⟨eE⟩
         refine ⟨Y, _, rfl, SqL.of eY, n2, fun M2 hM2 hmax2 => ?_⟩
         o_head ⟨eE⟩
         refine ⟨Y, _, rfl, SqL.of eY, n2, fun N hN hmin => ?_⟩
         o_head ⟨eE⟩
         have e12 : M2 = M := by have := hmax M2 hM2; have := hmax2 M hM; omega
         subst e12
         have bM := my M2 hM
         refine ⟨fun a ha => ?_, fun N' hN' hmin' => ?_, ?_⟩
         ·have := hmax a ha
          split <;> omega
         ·have := hmin' N hN
          have := hmin N' hN'
          have := hmax N' hN'
          split <;> omega
         ·split <;> omega
        ·rintro σ H7 ⟨hg, rfl, rfl, hgmax, hgmin, h40⟩
         have b70 : Bd 70 m := Bd.of_le (10 ^ 20) (by omega) (by omega) (by decide)
         have sm : ∀ k : Int, -10 ≤ k → k ≤ 50 → Bd 10 k := fun k a1 a2 => Bd.of_le 50 (by omega) (by omega) (by decide)
         have xpos : ∀ z ∈ rs, 0 ≤ wd := fun z hz => by have := wmax z.1 (List.mem_map.mpr ⟨z, hz, rfl⟩); have := bd z hz; omega
         have z0 : ∃ z, z ∈ rs := by
          obtain ⟨z, hz⟩ : ∃ z, rs[0]? = some z := ⟨_, List.getElem?_eq_getElem (by omega)⟩
          exact ⟨z, List.mem_of_getElem? hz⟩
         obtain ⟨zz, hzz⟩ := z0
         have w0 := xpos zz hzz
         have g0 : 0 ≤ hg := by have := hgmax zz.2 (List.mem_map.mpr ⟨zz, hzz, rfl⟩); have := bd zz hzz; omega
         refine ⟨fun σ H' => ∃ (B : Addr) (N N' : Int), σ = [some (.ref p), some (.int n0), some (.int m0), some (.ref L), some (.int m), some (.int r), some (.int u), some (.ref E), some (.ref X), some (.ref Y), some (.int wd), some (.int hg), some (.ref B)] ∧ H' B = some (.tup [.int ((N - e0) * m + r), .int ((N' - e1) * m + u), .int (wd * m + r), .int (hg * m + u)]) ∧ Ext H7 H' ∧ (N ∈ rs.map (·.1) ∧ ∀ a ∈ rs.map (·.1), N ≤ a) ∧ (N' ∈ rs.map (·.2) ∧ ∀ a ∈ rs.map (·.2), N' ≤ a), ?_, ?_⟩
         ·o_head ⟨eE⟩
          refine ⟨X, _, rfl, SqL.of eX, n1, fun N hN hmin => ?_⟩
          have bN := mx N hN
          o_head ⟨eE⟩
          refine ⟨.of (sm _ (by omega) (by omega)) b70 (by decide) (by decide), ?_⟩
          refine ⟨Y, _, rfl, SqL.of eY, n2, fun N' hN' hmin' => ?_⟩
          have bN' := my N' hN'
          o_head ⟨eE⟩
          refine ⟨.of (sm _ (by omega) (by omega)) b70 (by decide) (by decide), .of (sm _ (by omega) (by omega)) b70 (by decide) (by decide), .of (sm _ (by omega) (by omega)) b70 (by decide) (by decide), by decide, fun B hB => ?_⟩
          exact ⟨N, N', rfl, .upd hB, hN, hmin, hN', hmin'⟩
         ·rintro σ H8 ⟨B, N, N', rfl, eB, x8, ⟨hN, hmin⟩, hN', hmin'⟩
          have bN := mx N hN
          have bN' := my N' hN'
          walk_at "RD"
          refine tlc_list (K := K) (a := L) (xs := qs.map V.ref) (fun R h => by walk_at "RD"; exact h) (SqL.of (x8 _ _ eL)) (by rw [lq]; omega) (fun D i ys H' => ∃ qs' : List Addr, ys = qs'.map V.ref ∧ R2At H' qs' ((rs.take i).map fun z => (z.1 * m + r, z.2 * m + u)) ∧ H' D = some (.lst ys) ∧ Ext H8 H') ?_ ?_ ?_ ?_
          ·intro D hD
           exact ⟨[], rfl, ⟨rfl, fun i q z a => by simp at a⟩, upd_same, .upd hD⟩
          ·rintro D i ys H9 _ ⟨qs', rfl, r9, e9, x9⟩
           refine ⟨e9, ?_, SqL.of (x9 _ _ (x8 _ _ eL))⟩
           rw [List.length_map, r9.1, List.length_map, List.length_take]
           omega
          ·rintro D i w1 ys H9 hD hi ⟨qs', rfl, r9, e9, x9⟩
           obtain ⟨q, hq, rfl⟩ := refs_get hi
           obtain ⟨z, hr1, hr2⟩ := r2.at hq
           have bz := bd z (List.mem_of_getElem? hr1)
           o_head ⟨gSeqF, gCons, gNil, x9 _ _ (x8 _ _ hr2)⟩
           refine ⟨.of (sm _ (by omega) (by omega)) b70 (by decide) (by decide), .of (sm _ (by omega) (by omega)) b70 (by decide) (by decide), by decide, fun t ht => ?_⟩
           have e9' := upd_f (o := .tup [.int (z.1 * m + r), .int (z.2 * m + u)]) ht e9
           refine ⟨e9', qs' ++ [t], by rw [List.map_append]; rfl, ?_, (x9.then ht).set hD⟩
           rw [List.take_succ, hr1, List.map_append]
           exact ((r9.ext (Ext.upd ht)).append (R2At.one (r := (z.1 * m + r, z.2 * m + u)) upd_same)).setL e9'
          ·rintro D ys H9 hD ⟨qs', rfl, r9, e9, x9⟩
           rw [lq, List.take_length] at r9
           refine ⟨by decide, fun t ht => ?_⟩
           have xt := x9.trans (Ext.upd (o := .tup [.ref B, .ref D]) ht)
           have xa := ((x4.trans x5).trans x8).trans xt
           have q1 := sc_bd (k := N - e0) (by omega) (by omega) m1 m2
           have q2 := sc_bd (k := N' - e1) (by omega) (by omega) m1 m2
           have q3 := sc_bd (k := wd) (by omega) (by omega) m1 m2
           have q4 := sc_bd (k := hg) (by omega) (by omega) m1 m2
           refine h t B D ((N - e0) * m + r) ((N' - e1) * m + u) (wd * m + r) (hg * m + u) qs' (rs.map fun z => (z.1 * m + r, z.2 * m + u)) _ (d3.ext xa) upd_same ⟨xt _ _ eB, upd_f ht e9, r9.ext (Ext.upd ht), sc_lt (wmin N hN hmin) m1, sc_lt (hgmin N' hN' hmin') m1, ?_, nodup_sc nd m1, by rw [List.length_map]; omega, by rw [List.length_map]; exact l12, by omega⟩ (by rw [List.length_map]; exact l0) (by omega) (by omega)
           intro w' hw'
           obtain ⟨z, hz, rfl⟩ := List.mem_map.mp hw'
           have k1 := hmin z.1 (List.mem_map.mpr ⟨z, hz, rfl⟩)
           have k2 := hmin' z.2 (List.mem_map.mpr ⟨z, hz, rfl⟩)
           have k3 := wmax z.1 (List.mem_map.mpr ⟨z, hz, rfl⟩)
           have k4 := hgmax z.2 (List.mem_map.mpr ⟨z, hz, rfl⟩)
           exact ⟨sc_le (by omega) m1, sc_le k3 m1, sc_le (by omega) m1, sc_le k4 m1⟩
end
end LW
namespace LW
open PySem L2 MA PyProof.Rows
section
variable {P : Program} {w : World} {K : PySem.W.Frag} {mg : Str → Option Value} {base : Heap}
theorem sc__law_told : FnScope ["_law_spots_here", "_law_told_here", "e"] ["_law_spots_here"] (defScope s__law_told) := ⟨rfl, rfl, rfl, by decide +kernel, rfl, by decide +kernel, by decide +kernel⟩
set_option maxHeartbeats 0 in
theorem ok__law_told {C : Cz} {f : Addr} {fd : FuncData} (F : Fun K "_law_told" "_law_told" s__law_told f fd) (T : Txt P K mg C) (F_halves : FnB P w K mg base (CXE P w) 3 "halves" ["spots"] (sp_halvesE K C)) : FnOk P w K mg base (CXE P w) 4 f fd ["_law_spots_here"] (sp_told K C) := by
 refine okN F (k := 3) sc__law_told (fun vs H Q E h => ?_) (fun cdv A outer s H vs Q E hr h => ?_)
 ·obtain ⟨l, qs, rs, rfl, _⟩ := h
  rfl
 ·obtain ⟨l, qs, rs, rfl, h⟩ := h
  refine' ⟨_, ?main, ?rest⟩
  case main =>
   refine' pss_cons ?c1 ?c2
   case' c1 => exact (ps_set (i := 1) sc__law_told.nd rfl (Or.inl rfl) pe_non)
   case' c2 => refine' pss_cut ?c3 ?c4
   case' c3 => refine' ps_tryN (K := K) ?c5 ?c6 ?c7 ?c8
   case c5 => exact rfl
   case' c6 => exact (fun pn W E1 σ0 hx => (pss_one (ps_set (i := 1) sc__law_told.nd rfl (Or.inl rfl) (pe_tup (pa_cons pe_str (pa_cons (pe_fnS F_halves (hr.mono (by decide)) rfl hx (pa_cons (pvF 0) pa_nil)) pa_nil))))))
   case c7 => exact (PHs.cons (cD := C.NoLot) (i := 2) rfl rfl rfl T.g_NoLot (by decide) (fun ev => (pss_one (ps_set (i := 1) sc__law_told.nd rfl (Or.inl rfl) (pe_tup (pa_cons pe_str (pa_cons (pe_callB (call_isiXT (K := K) rfl) (by rfl) T.b_isinstance boot_isinstance (pa_cons (pvF 2) (pa_cons (pe_tup (pa_cons (pe_glob (v := V.ref C.NoSpot) rfl T.g_NoSpot rfl) (pa_cons (pe_glob (v := V.ref C.TooMany) rfl T.g_TooMany rfl) (pa_cons (pe_glob (v := V.ref C.NoBox) rfl T.g_NoBox rfl) pa_nil)))) pa_nil))) (pa_cons (pe_callB (call_isiX (K := K) rfl) (by rfl) T.b_isinstance boot_isinstance (pa_cons (pvF 2) (pa_cons (pe_bltn (v := V.ty "ValueError") rfl T.b_ValueError boot_ValueError rfl) pa_nil))) pa_nil))))))) (PHs.cons (cD := C.TooMany) (i := 2) rfl rfl rfl T.g_TooMany (by decide) (fun ev => (pss_one (ps_set (i := 1) sc__law_told.nd rfl (Or.inl rfl) (pe_tup (pa_cons pe_str (pa_cons (pe_callB (call_isiXT (K := K) rfl) (by rfl) T.b_isinstance boot_isinstance (pa_cons (pvF 2) (pa_cons (pe_tup (pa_cons (pe_glob (v := V.ref C.NoSpot) rfl T.g_NoSpot rfl) (pa_cons (pe_glob (v := V.ref C.NoLot) rfl T.g_NoLot rfl) (pa_cons (pe_glob (v := V.ref C.NoBox) rfl T.g_NoBox rfl) pa_nil)))) pa_nil))) (pa_cons (pe_callB (call_isiX (K := K) rfl) (by rfl) T.b_isinstance boot_isinstance (pa_cons (pvF 2) (pa_cons (pe_bltn (v := V.ty "ValueError") rfl T.b_ValueError boot_ValueError rfl) pa_nil))) pa_nil))))))) (PHs.cons (cD := C.NoSpot) (i := 2) rfl rfl rfl T.g_NoSpot (by decide) (fun ev => (pss_one (ps_set (i := 1) sc__law_told.nd rfl (Or.inl rfl) (pe_tup (pa_cons pe_str (pa_cons (pe_callB (call_isiXT (K := K) rfl) (by rfl) T.b_isinstance boot_isinstance (pa_cons (pvF 2) (pa_cons (pe_tup (pa_cons (pe_glob (v := V.ref C.TooMany) rfl T.g_TooMany rfl) (pa_cons (pe_glob (v := V.ref C.NoLot) rfl T.g_NoLot rfl) (pa_cons (pe_glob (v := V.ref C.NoBox) rfl T.g_NoBox rfl) pa_nil)))) pa_nil))) (pa_cons (pe_at (K := K) rfl (pvF 2) rfl) pa_nil))))))) PHs.nil)))
   case c8 => exact sc__law_told.nd
   case' c4 => exact (pss_one (ps_ret (pvF 1)))
  case rest =>
   obtain ⟨hl, hr, tb, h⟩ := h
   simp only [L2.start, List.map_cons, List.map_nil, List.length_cons, List.length_nil, Nat.reduceAdd, Nat.reduceSub, List.replicate_succ, List.replicate_zero, List.cons_append, List.nil_append, List.append_nil]
   refine ⟨fun σ H' => ∃ (t : Addr), σ = [some (.ref l), some (.ref t), none] ∧ Ext H H' ∧ ToldAt H H' rs t, ?_, ?_⟩
   ·o_head ⟨sp_halvesE⟩
    refine ⟨qs, hl, rs, hr, tb, fun n => ⟨C.TooMany, rfl, T.x_TooMany.b, .inr ⟨T.m_TooMany_NoLot, .inl ⟨T.m_TooMany_TooMany, fun e he => ?_⟩⟩⟩, fun g0 g12 H' x i dx fd hd => ⟨C.NoSpot, rfl, T.eb_NoSpot, .inr ⟨T.m_NoSpot_NoLot, .inr ⟨T.m_NoSpot_TooMany, .inl ⟨T.m_NoSpot_NoSpot, fun e he => ?_⟩⟩⟩⟩,
     fun g1 H' x => ⟨C.NoLot, rfl, T.x_NoLot.b, .inl ⟨T.m_NoLot_NoLot, fun e he => ?_⟩⟩, fun g2 g12 nd u a b A B H' x eu na nb nab ea eb hv => ⟨by decide, fun t ht => ?_⟩⟩
    ·walk_at "RD"
     refine ⟨by decide, fun k hk => rIsiXT_3 (upd_f hk upd_same) T.x_TooMany.b upd_same T.j_TooMany_NoSpot_NoLot_NoBox ?_⟩
     refine rIsiX_t (upd_f hk upd_same) T.x_TooMany.b T.i_TooMany_ValueError ?_
     exact ⟨by decide, fun t ht => ⟨((Ext.upd he).then hk).then ht, .inl ⟨n, upd_same⟩⟩⟩
    ·walk_at "RD"
     refine ⟨by decide, fun k hk => rIsiXT_3 (upd_f hk upd_same) T.eb_NoSpot upd_same T.j_NoSpot_TooMany_NoLot_NoBox ?_⟩
     refine ⟨C.NoSpot, dx, upd_f hk upd_same, T.eb_NoSpot, T.at_NoSpot, T.hd_NoSpot, _, upd_f hk (upd_f he upd_same), _, rfl, by decide, fun t ht => ⟨(((x.then hd).then he).then hk).then ht, .inr (.inl ⟨⟨g0, g12⟩, i, fd, upd_same⟩)⟩⟩
    ·walk_at "RD"
     refine ⟨by decide, fun k hk => rIsiXT_3 (upd_f hk upd_same) T.x_NoLot.b upd_same T.j_NoLot_NoSpot_TooMany_NoBox ?_⟩
     refine rIsiX_t (upd_f hk upd_same) T.x_NoLot.b T.i_NoLot_ValueError ?_
     exact ⟨by decide, fun t ht => ⟨((x.then he).then hk).then ht, .inr (.inr (.inl ⟨g1, upd_same⟩))⟩⟩
    ·exact ⟨x.then ht, .inr (.inr (.inr ⟨⟨g2, g12, nd⟩, u, a, b, A, B, upd_same, upd_f ht eu, na, nb, nab, upd_f ht ea, upd_f ht eb, hv⟩))⟩
   ·rintro σ H1 ⟨t, rfl, x1, td⟩
    walk_at "RD"
    exact h _ _ x1 td
end
end LW
namespace LW
open PySem L2 MA PyProof.Rows
section
variable {P : Program} {w : World} {K : PySem.W.Frag} {mg : Str → Option Value} {base : Heap}
theorem sc__law_right : FnScope ["_law_spots_here", "_law_handed", "_law_bout", "_law_told_here", "_law_low", "_law_high"] ["_law_spots_here"] (defScope s__law_right) := ⟨rfl, rfl, rfl, by decide +kernel, rfl, by decide +kernel, by decide +kernel⟩
set_option maxHeartbeats 0 in
theorem ok__law_right {C : Cz} {f : Addr} {fd : FuncData} (F : Fun K "_law_right" "_law_right" s__law_right f fd) (T : Txt P K mg C) (F__law_told : FnB P w K mg base (CXE P w) 4 "_law_told" ["_law_spots_here"] (sp_told K C)) : FnOk P w K mg base (CXE P w) 5 f fd ["_law_spots_here"] (sp_right K C) := by
 refine okN F (k := 4) sc__law_right (fun vs H Q E h => ?_) (fun cdv A outer s H vs Q E hr h => ?_)
 ·obtain ⟨l, qs, rs, rfl, _⟩ := h
  rfl
 ·obtain ⟨l, qs, rs, rfl, h⟩ := h
  refine' ⟨_, ?main, ?rest⟩
  case main =>
   refine' pss_cut ?c1 ?c2
   case' c1 => refine' ps_set (i := 1) sc__law_right.nd rfl (Or.inl rfl) ?c3
   case' c3 => refine' pe_callTy call_listF (by rfl) T.b_list boot_list ?c4
   case' c4 => exact (pa_cons (pvF 0) pa_nil)
   case' c2 => refine' pss_cons ?c5 ?c6
   case' c5 => refine' ps_for ?c7 ?c8 ?c9 ?c10 ?c11
   case c7 => exact PassesOwn.never
   case c8 => exact rfl
   case' c9 => refine' pi_range1 rfl T.b_range ?c12
   case' c12 => exact (pa_cons pe_int pa_nil)
   case c10 => exact (pg_name (i := 2) sc__law_right.nd rfl (Or.inl rfl))
   case' c11 => refine' pss_cut ?c13 ?c14
   case' c13 => refine' ps_set (i := 3) sc__law_right.nd rfl (Or.inl rfl) ?c15
   case' c15 => refine' pe_fn F__law_told (hr.mono (by decide)) rfl passE0 ?c16
   case' c16 => exact (pa_cons (pvF 1) pa_nil)
   case' c14 => refine' pss_cut ?c17 ?c18
   case' c17 => refine' ps_if ?c19 ?c20 ?c21
   case' c19 => refine' PW.pt ?c22
   case' c22 => refine' pw_or ?c23 ?c24
   case' c23 => refine' pt_cmpF op_ne ?c25 pe_str (nomark _)
   case' c25 => exact (pe_ix ix_F (pvF 3) pe_int (fun _ _ => rfl))
   case' c24 => refine' pw_or ?c26 ?c27
   case' c26 => refine' pt_not ?c28
   case' c28 => refine' pt_valF ?c29
   case' c29 => refine' pe_callB call_isiF (by rfl) T.b_isinstance boot_isinstance ?c30
   case' c30 => refine' pa_cons ?c31 ?c32
   case' c31 => exact (pe_ix ix_F (pvF 3) pe_int (fun _ _ => rfl))
   case' c32 => exact (pa_cons (pe_bltn (v := V.ty "tuple") rfl T.b_tuple boot_tuple rfl) pa_nil)
   case' c27 => refine' pw_or ?c33 ?c34
   case' c33 => refine' pt_cmpF op_neI ?c35 pe_int (nomark _)
   case' c35 => refine' pe_callB call_lenF (by rfl) T.b_len PySem.boot_len ?c36
   case' c36 => refine' pa_cons ?c37 pa_nil
   case' c37 => exact (pe_ix ix_F (pvF 3) pe_int (fun _ _ => rfl))
   case' c34 => exact (pw_or1 (pt_cmpF (op_neDK (K := K) rfl (hu64 hr)) (pvF 1) (pvF 0) (nomark _)))
   case' c20 => refine' pss_one ?c38
   case' c38 => exact (ps_ret pe_bl)
   case c21 => exact pss_nil
   case' c18 => refine' pss_cut ?c39 ?c40
   case' c39 => refine' ps_asg ?c41 ?c42
   case' c41 => exact (pe_ix ix_F (pvF 3) pe_int (fun _ _ => rfl))
   case' c42 => refine' pg_F (n := 2) rfl ?c43
   case' c43 => refine' pgs_consF (pg_name (i := 4) sc__law_right.nd rfl (Or.inl rfl)) ?c44
   case' c44 => exact (pgs_consF (pg_name (i := 5) sc__law_right.nd rfl (Or.inl rfl)) pgs_nilF)
   case' c40 => refine' pss_cut ?c45 ?c46
   case' c45 => refine' ps_if ?c47 ?c48 ?c49
   case' c47 => refine' PW.pt ?c50
   case' c50 => refine' pw_or ?c51 ?c52
   case' c51 => refine' pt_not ?c53
   case' c53 => refine' pt_valF ?c54
   case' c54 => refine' pe_callB call_isiF (by rfl) T.b_isinstance boot_isinstance ?c55
   case' c55 => refine' pa_cons (pvF 4) ?c56
   case' c56 => exact (pa_cons (pe_bltn (v := V.ty "list") rfl T.b_list boot_list rfl) pa_nil)
   case' c52 => refine' pw_or ?c57 ?c58
   case' c57 => refine' pt_not ?c59
   case' c59 => refine' pt_valF ?c60
   case' c60 => refine' pe_callB call_isiF (by rfl) T.b_isinstance boot_isinstance ?c61
   case' c61 => refine' pa_cons (pvF 5) ?c62
   case' c62 => exact (pa_cons (pe_bltn (v := V.ty "list") rfl T.b_list boot_list rfl) pa_nil)
   case' c58 => refine' pw_or1 ?c63
   case' c63 => refine' pt_cmpF op_neI ?c64 ?c65 (nomark _)
   case' c64 => refine' pe_callB call_lenF (by rfl) T.b_len PySem.boot_len ?c66
   case' c66 => exact (pa_cons (pvF 4) pa_nil)
   case' c65 => refine' pe_op (OpR.f op_fdivB) ?c67 pe_int
   case' c67 => refine' pe_callB call_lenF (by rfl) T.b_len PySem.boot_len ?c68
   case' c68 => exact (pa_cons (pvF 0) pa_nil)
   case' c48 => refine' pss_one ?c69
   case' c69 => exact (ps_ret pe_bl)
   case c49 => exact pss_nil
   case' c46 => refine' pss_cut ?c70 ?c71
   case' c70 => refine' ps_if ?c72 ?c73 ?c74
   case' c72 => refine' PW.pt ?c75
   case' c75 => refine' pw_or ?c76 ?c77
   case' c76 => refine' pt_cmpF (op_neDK (K := K) rfl (hu64 hr)) ?c78 ?c79 (nomark _)
   case' c78 => refine' pe_callB (call_sortI (K := K) rfl) (by rfl) T.b_sorted boot_sorted ?c80
   case' c80 => exact (pa_cons (pe_op op_catF (pvF 4) (pvF 5)) pa_nil)
   case' c79 => refine' pe_callTy (call_lstRng rfl) (by rfl) T.b_list boot_list ?c81
   case' c81 => refine' pa_cons ?c82 pa_nil
   case' c82 => refine' pe_callTy call_rng1 (by rfl) T.b_range boot_range ?c83
   case' c83 => refine' pa_cons ?c84 pa_nil
   case' c84 => refine' pe_callB call_lenF (by rfl) T.b_len PySem.boot_len ?c85
   case' c85 => exact (pa_cons (pvF 0) pa_nil)
   case' c77 => refine' pw_or ?c86 ?c87
   case' c86 => refine' pt_cmpF (op_neDK (K := K) rfl (hu64 hr)) (pvF 4) ?c88 (nomark _)
   case' c88 => refine' pe_callB (call_sortI (K := K) rfl) (by rfl) T.b_sorted boot_sorted ?c89
   case' c89 => exact (pa_cons (pvF 4) pa_nil)
   case' c87 => refine' pw_or1 ?c90
   case' c90 => refine' pt_cmpF (op_neDK (K := K) rfl (hu64 hr)) (pvF 5) ?c91 (nomark _)
   case' c91 => refine' pe_callB (call_sortI (K := K) rfl) (by rfl) T.b_sorted boot_sorted ?c92
   case' c92 => exact (pa_cons (pvF 5) pa_nil)
   case' c73 => refine' pss_one ?c93
   case' c93 => exact (ps_ret pe_bl)
   case c74 => exact pss_nil
   case' c71 => refine' pss_cut ?c94 ?c95
   case' c94 => refine' ps_if ?c96 ?c97 ?c98
   case' c96 => refine' pt_valF ?c99
   case' c99 => refine' pe_callB ?c100 ?c101 ?c102 ?c103 ?c104
   case c100 => exact (call_anyK (K := K) rfl rfl)
   case c101 => exact (by rfl)
   case c102 => exact T.b_any
   case c103 => exact boot_any
   case' c104 => refine' pa_cons ?c105 ?c106
   case' c105 => refine' pe_lc (CScope.of_ok (dsc := defScope s__law_right) (N0 := ["_law_spots_here", "_law_handed", "_law_bout", "_law_told_here", "_law_low", "_law_high"]) (N := ["_law_number"]) (k := 1) (js := []) rfl rfl (by decide +kernel)) rfl ?c107 ?c108 ?c109 ?c110
   case' c107 => refine' pi_listK (K := K) rfl ?c111
   case' c111 => exact (PE.up (pe_op op_catF (pvF 4) (pvF 5)))
   case' c108 => intro _ _ _ _ _ _; exact (pg_name (i := 0) (by show List.Nodup (["_law_number"] : List Str); decide +kernel) rfl (Or.inl rfl))
   case' c109 => intro _ _ _ _ _ _; exact pifs_nil
   case' c110 => intro _ _ _ _ _ _; refine' pe_callB call_isiF (by rfl) T.b_isinstance boot_isinstance ?c112
   case' c112 => refine' pa_cons (pvF 0) ?c113
   case' c113 => exact (pa_cons (pe_bltn (v := V.ty "bool") rfl T.b_bool boot_bool rfl) pa_nil)
   case c106 => exact pa_nil
   case' c97 => refine' pss_one ?c114
   case' c114 => exact (ps_ret pe_bl)
   case c98 => exact pss_nil
   case' c95 => refine' pss_cut ?c115 ?c116
   case' c115 => refine' ps_if ?c117 ?c118 ?c119
   case' c117 => refine' pt_cmpF (op_gtT (K := K) rfl hr.units0) ?c120 ?c121 (nomark _)
   case' c120 => refine' pe_callB ?c122 ?c123 ?c124 ?c125 ?c126
   case c122 => exact (call_maxTs (K := K) rfl rfl hr.units)
   case c123 => exact (by rfl)
   case c124 => exact T.b_max
   case c125 => exact boot_max
   case' c126 => refine' pa_cons ?c127 ?c128
   case' c127 => refine' pe_lc (CScope.of_ok (dsc := defScope s__law_right) (N0 := ["_law_spots_here", "_law_handed", "_law_bout", "_law_told_here", "_law_low", "_law_high"]) (N := ["_law_number", "_law_spots_here"]) (k := 1) (js := [0]) rfl rfl (by decide +kernel)) rfl (pi_listK (K := K) rfl (pvF 4)) ?c129 ?c130 ?c131
   case' c129 => intro _ _ _ _ _ _; exact (pg_name (i := 0) (by show List.Nodup (["_law_number", "_law_spots_here"] : List Str); decide +kernel) rfl (Or.inl rfl))
   case' c130 => intro _ _ _ _ _ _; exact pifs_nil
   case' c131 => intro _ _ _ _ _ _; exact (pe_ix ix_F (pvF 1) (pvF 0) (fun _ _ => rfl))
   case c128 => exact pa_nil
   case' c121 => refine' pe_callB ?c132 ?c133 ?c134 ?c135 ?c136
   case c132 => exact (call_minTs (K := K) rfl rfl hr.units)
   case c133 => exact (by rfl)
   case c134 => exact T.b_min
   case c135 => exact boot_min
   case' c136 => refine' pa_cons ?c137 ?c138
   case' c137 => refine' pe_lc (CScope.of_ok (dsc := defScope s__law_right) (N0 := ["_law_spots_here", "_law_handed", "_law_bout", "_law_told_here", "_law_low", "_law_high"]) (N := ["_law_number", "_law_spots_here"]) (k := 1) (js := [0]) rfl rfl (by decide +kernel)) rfl (pi_listK (K := K) rfl (pvF 5)) ?c139 ?c140 ?c141
   case' c139 => intro _ _ _ _ _ _; exact (pg_name (i := 0) (by show List.Nodup (["_law_number", "_law_spots_here"] : List Str); decide +kernel) rfl (Or.inl rfl))
   case' c140 => intro _ _ _ _ _ _; exact pifs_nil
   case' c141 => intro _ _ _ _ _ _; exact (pe_ix ix_F (pvF 1) (pvF 0) (fun _ _ => rfl))
   case c138 => exact pa_nil
   case' c118 => refine' pss_one ?c142
   case' c142 => exact (ps_ret pe_bl)
   case c119 => exact pss_nil
   case' c116 => refine' pss_cons ?c143 ?c144
   case' c143 => refine' ps_expr ?c145
   case' c145 => refine' pe_app (pvF 4) ?c146
   case' c146 => exact (pa_cons pe_int pa_nil)
   case' c144 => refine' pss_one ?c147
   case' c147 => exact (ps_expr (pe_clr0 (pvF 5)))
   case' c6 => refine' pss_one ?c148
   case' c148 => exact (ps_ret pe_bl)
  case rest =>
   obtain ⟨hl, hr, ⟨n2, n12, nd⟩, tb, h⟩ := h
   have lq : (qs.map V.ref).length = rs.length := by rw [List.length_map, hr.1]
   simp only [L2.start, List.map_cons, List.map_nil, List.length_cons, List.length_nil, Nat.reduceAdd, Nat.reduceSub, List.replicate_succ, List.replicate_zero, List.cons_append, List.nil_append, List.append_nil]
   refine ⟨fun σ H' => ∃ g : Addr, σ = [some (.ref l), some (.ref g), none, none, none, none] ∧ Ext H H' ∧ H' g = some (.lst (qs.map V.ref)), ?_, ?_⟩
   ·o_head ⟨hl⟩
    exact fun c hc => .upd hc
   rintro σ H0 ⟨g, rfl, x0, eg⟩
   refine tfor_range 2 (fun R hR => by walk_at "RD"; exact hR) (by decide) (fun i σ H' => ∃ o2 o3 o4 o5 : Option V, σ = [some (.ref l), some (.ref g), o2, o3, o4, o5] ∧ Ext H0 H') ⟨_, _, _, _, rfl, .refl _⟩ ?_ ?_
   rotate_left
   ·rintro σ H1 ⟨o2, o3, o4, o5, rfl, x1⟩
    walk_at "RD"
    exact h _ (x0.trans x1)
   rintro i σ H1 hi ⟨o2, o3, o4, o5, rfl, x1⟩
   have x01 := x0.trans x1
   refine ⟨fun σ H' => ∃ (t u a b : Addr) (A B : List Int), σ = [some (.ref l), some (.ref g), some (.int (0 + (i : Int))), some (.ref t), o4, o5] ∧ Ext H1 H' ∧ H' t = some (.tup [.str "halves", .ref u]) ∧ H' u = some (.tup [.ref a, .ref b]) ∧ H1 a = none ∧ H1 b = none ∧ a ≠ b ∧ H' a = some (.lst (A.map V.int)) ∧ H' b = some (.lst (B.map V.int)) ∧ HalvesAt rs A B, ?_, ?_⟩
   ·o_head ⟨sp_told⟩
    refine ⟨qs, x1 _ _ eg, rs, hr.ext x01, x01 _ _ tb, fun t H' x td => ?_⟩
    rcases td with ⟨n, _⟩ | ⟨_, i', fd, _⟩ | ⟨e, _⟩ | ⟨_, u, a, b, A, B, et, eu, na, nb, nab, ea, eb, hv⟩
    ·exact absurd ⟨by omega, n12⟩ n
    ·exact (fd.no nd).elim
    ·omega
    ·exact ⟨x, u, et, a, b, eu, na, nb, nab, A, ea, B, eb, hv⟩
   rintro σ H2 ⟨t, u, a, b, A, B, rfl, x2, et, eu, na, nb, nab, ea, eb, hv⟩
   have x02 := x01.trans x2
   have hl2 := x02 _ _ hl
   have eg2 := (x1.trans x2) _ _ eg
   have hr2 := hr.ext x02
   refine ⟨fun σ H' => σ = [some (.ref l), some (.ref g), some (.int (0 + (i : Int))), some (.ref t), o4, o5] ∧ H' = H2, ?_, ?_⟩
   ·o_head ⟨et, eu⟩
    refine ⟨_, _, .lst (SqL.of eg2) (rdy_rs hr2), .lst (SqL.of hl2) (rdy_rs hr2), shaped_rs _, shaped_rs _, ?_⟩
    dsimp only
    rw [eqv_rs, if_neg (by decide)]
   obtain ⟨pAB, lA, lB, sA, sB, inA, inB, low⟩ := hv.all
   rintro σ H3 ⟨rfl, rfl⟩
   refine ⟨fun σ H' => σ = [some (.ref l), some (.ref g), some (.int (0 + (i : Int))), some (.ref t), some (.ref a), some (.ref b)] ∧ H' = H3, ?_, ?_⟩
   ·o_head ⟨et, eu, gSeqF⟩
   rintro σ H4 ⟨rfl, rfl⟩
   refine ⟨fun σ H' => σ = [some (.ref l), some (.ref g), some (.int (0 + (i : Int))), some (.ref t), some (.ref a), some (.ref b)] ∧ H' = H4, ?_, ?_⟩
   ·o_head ⟨ea, eb, hl2, lq⟩
    have hl0 : (((A.map V.int).length : Nat) : Int) = Int.fdiv (rs.length : Int) 2 := by
     rw [List.length_map, lA, Int.fdiv_eq_ediv_of_nonneg _ (by decide)]
     omega
    rw [if_neg (fun k => k hl0)]
    trivial
   rintro σ H5 ⟨rfl, rfl⟩
   refine ⟨fun σ H' => σ = [some (.ref l), some (.ref g), some (.int (0 + (i : Int))), some (.ref t), some (.ref a), some (.ref b)] ∧ Ext H5 H', ?_, ?_⟩
   ·o_head ⟨ea, eb, hl2, lq⟩
    refine ⟨by rw [List.length_map, List.length_map]; omega, fun p1 h1 => ?_⟩
    refine ⟨p1, A ++ B, rfl, SqL.of (by rw [upd_same, List.map_append]), by rw [List.length_append]; omega, fun D ns hD pS sS => ?_⟩
    have ens : ns = (List.range rs.length).map fun i : Nat => (i : Int) := sorted_uniq (pS.trans pAB) sS (by
     rw [List.pairwise_map]
     exact List.pairwise_lt_range.imp fun h => by omega)
    subst ens
    have y1 := (Ext.upd (o := .lst (A.map V.int ++ B.map V.int)) h1).then (o := .lst (((List.range rs.length).map fun i : Nat => (i : Int)).map V.int)) hD
    dsimp only
    rw [y1 _ _ hl2, seqOf_l, optK_some, lq]
    refine ⟨rs.length, rfl, by omega, fun r hr0 => ⟨r, rs.length, rfl, upd_same, by omega, fun D2 hD2 => ?_⟩⟩
    have eD2 := upd_same (H := upd (upd (upd H5 p1 (.lst (A.map V.int ++ B.map V.int))) D (.lst (((List.range rs.length).map fun i : Nat => (i : Int)).map V.int))) r (.rng 0 (rs.length : Int))) (a := D2) (o := .lst ((List.range rs.length).map fun j : Nat => V.int (j : Int)))
    have eD1 := upd_f (o := .lst ((List.range rs.length).map fun j : Nat => V.int (j : Int))) hD2 (upd_f (o := .rng 0 (rs.length : Int)) hr0 (upd_same (H := upd H5 p1 (.lst (A.map V.int ++ B.map V.int))) (a := D) (o := .lst (((List.range rs.length).map fun i : Nat => (i : Int)).map V.int))))
    have y2 := (y1.then (o := .rng 0 (rs.length : Int)) hr0).then (o := .lst ((List.range rs.length).map fun j : Nat => V.int (j : Int))) hD2
    have em : ((List.range rs.length).map fun j : Nat => V.int (j : Int)) = ((List.range rs.length).map fun i : Nat => (i : Int)).map V.int := by
     rw [List.map_map]
     rfl
    rw [em] at eD2 eD1 y2 ⊢
    refine ⟨_, _, rdy_intsL eD1, rdy_intsL eD2, shaped_intsL _, shaped_intsL _, ?_⟩
    dsimp only
    rw [eqv_intsL, if_neg (by decide)]
    refine ⟨a, A, rfl, SqL.of (y2 _ _ ea), by omega, fun E1 ns1 hE1 p1' s1 => ?_⟩
    have e1 := sorted_uniq p1' s1 sA
    subst e1
    have y3 := y2.then (o := .lst (ns1.map V.int)) hE1
    refine ⟨_, _, rdy_intsL (y3 _ _ ea), rdy_intsL upd_same, shaped_intsL _, shaped_intsL _, ?_⟩
    dsimp only
    rw [eqv_intsL, if_neg (by decide)]
    refine ⟨b, B, rfl, SqL.of (y3 _ _ eb), by omega, fun E2 ns2 hE2 p2' s2 => ?_⟩
    have e2 := sorted_uniq p2' s2 sB
    subst e2
    have y4 := y3.then (o := .lst (ns2.map V.int)) hE2
    refine ⟨_, _, rdy_intsL (y4 _ _ eb), rdy_intsL upd_same, shaped_intsL _, shaped_intsL _, ?_⟩
    dsimp only
    rw [eqv_intsL, if_neg (by decide)]
    exact y4
   rintro σ H6 ⟨rfl, x6⟩
   refine ⟨fun σ H' => σ = [some (.ref l), some (.ref g), some (.int (0 + (i : Int))), some (.ref t), some (.ref a), some (.ref b)] ∧ Ext H6 H', ?_, ?_⟩
   ·o_head ⟨x6 _ _ ea, x6 _ _ eb⟩
    refine tlc_list_up (fun w H' => ∃ c, w = .ref c ∧ Ext H6 H' ∧ H' c = some (.lst ((A ++ B).map V.int))) ?_ ?_
    ·walk_at "RD"
     rw [x6 _ _ ea, x6 _ _ eb, lstOf_l, optK_some, lstOf_l, optK_some]
     refine ⟨by rw [List.length_map, List.length_map]; omega, fun c hc => ⟨.upd hc, by rw [List.map_append]⟩⟩
    ·rintro w H8 ⟨c, rfl, x8, ec⟩
     refine ⟨c, (A ++ B).map V.int, rfl, SqL.of ec, by rw [List.length_map, List.length_append]; omega, fun D i ys H' => ys = (List.replicate i false).map V.bl ∧ H' D = some (.lst ys) ∧ Ext H8 H', fun D hD => ⟨rfl, upd_same, .upd hD⟩, ?_, ?_, ?_⟩
     ·rintro D i ys H' hi ⟨rfl, eD, x⟩
      exact ⟨eD, by simp, SqL.of (x _ _ ec)⟩
     ·rintro D i x ys H' hD hx ⟨rfl, eD, xx⟩
      rw [List.getElem?_map] at hx
      obtain ⟨m, hm, rfl⟩ := Option.map_eq_some_iff.mp hx
      walk_at "RD"
      exact ⟨eD, by rw [List.map_replicate, ← List.replicate_succ', List.replicate_succ], xx.set hD⟩
     ·rintro D ys H' hD ⟨rfl, eD, xx⟩
      refine ⟨D, List.replicate _ false, rfl, SqL.of eD, ?_⟩
      dsimp only
      rw [if_neg (by rw [any_rep]; decide)]
      exact x8.trans xx
   rintro σ H7 ⟨rfl, x7⟩
   refine ⟨fun σ H' => σ = [some (.ref l), some (.ref g), some (.int (0 + (i : Int))), some (.ref t), some (.ref a), some (.ref b)] ∧ Ext H7 H', ?_, ?_⟩
   ·have y7 := (x0.trans x1).trans (x2.trans (x6.trans x7))
    have ea7 := x7 _ _ (x6 _ _ ea)
    have eb7 := x7 _ _ (x6 _ _ eb)
    have hl7 := x7 _ _ (x6 _ _ hl2)
    have hr7 := hr2.ext (x6.trans x7)
    walk_at "RD"
    refine tlc_list (fun R h => h) (SqL.of ea7) (by rw [List.length_map]; omega) (fun D i ys H' => ys = (A.take i).map (atQ qs) ∧ H' D = some (.lst ys) ∧ Ext H7 H') (fun D hD => ⟨rfl, upd_same, .upd hD⟩) ?_ ?_ ?_
    ·rintro D i ys H' hi ⟨rfl, eD, x⟩
     exact ⟨eD, by rw [List.length_map, List.length_take]; omega, SqL.of (x _ _ ea7)⟩
    ·rintro D i x ys H' hD hx ⟨rfl, eD, xx⟩
     rw [List.getElem?_map] at hx
     obtain ⟨m, hm, rfl⟩ := Option.map_eq_some_iff.mp hx
     obtain ⟨j, rfl, hj⟩ := inA m (List.mem_of_getElem? hm)
     obtain ⟨q, hq⟩ : ∃ q, qs[j]? = some q := ⟨_, List.getElem?_eq_getElem (by rw [hr.1]; exact hj)⟩
     o_head ⟨xx _ _ hl7⟩
     rw [atI_nat (j := j) (v := V.ref q) (by rw [List.getElem?_map, hq]; rfl), optK_some]
     refine ⟨eD, ?_, xx.set hD⟩
     rw [take_one hm, List.map_append]
     unfold atQ
     rw [List.map_cons, Int.toNat_natCast, List.getD_eq_getElem?_getD, hq]
     rfl
    rintro D ys H8 hD ⟨rfl, eD, x8⟩
    rw [List.length_map, List.take_length] at eD
    refine ⟨D, A.map (atQ qs), gH H7, rfl, SqL.of eD, by rw [List.length_map]; omega, fun x hx => ?_, fun x hx best => ?_⟩
    ·obtain ⟨m, hm, rfl⟩ := List.mem_map.mp hx
     obtain ⟨j, rfl, hj⟩ := inA m hm
     exact (pl_of x8 hr7 hj).2
    obtain ⟨m, hm, rfl⟩ := List.mem_map.mp hx
    obtain ⟨j, rfl, hj⟩ := inA m hm
    have eb8 := x8 _ _ eb7
    have hl8 := x8 _ _ hl7
    refine tlc_list (fun R h => h) (SqL.of eb8) (by rw [List.length_map]; omega) (fun D i ys H' => ys = (B.take i).map (atQ qs) ∧ H' D = some (.lst ys) ∧ Ext H8 H') (fun D hD => ⟨rfl, upd_same, .upd hD⟩) ?_ ?_ ?_
    ·rintro D i ys H' hi ⟨rfl, eD, x⟩
     exact ⟨eD, by rw [List.length_map, List.length_take]; omega, SqL.of (x _ _ eb8)⟩
    ·rintro D i x ys H' hD hx ⟨rfl, eD, xx⟩
     rw [List.getElem?_map] at hx
     obtain ⟨m, hm, rfl⟩ := Option.map_eq_some_iff.mp hx
     obtain ⟨j, rfl, hj⟩ := inB m (List.mem_of_getElem? hm)
     obtain ⟨q, hq⟩ : ∃ q, qs[j]? = some q := ⟨_, List.getElem?_eq_getElem (by rw [hr.1]; exact hj)⟩
     o_head ⟨xx _ _ hl8⟩
     rw [atI_nat (j := j) (v := V.ref q) (by rw [List.getElem?_map, hq]; rfl), optK_some]
     refine ⟨eD, ?_, xx.set hD⟩
     rw [take_one hm, List.map_append]
     unfold atQ
     rw [List.map_cons, Int.toNat_natCast, List.getD_eq_getElem?_getD, hq]
     rfl
    rintro D2 ys H9 hD2 ⟨rfl, eD2, x9⟩
    rw [List.length_map, List.take_length] at eD2
    refine ⟨D2, B.map (atQ qs), gH H7, rfl, SqL.of eD2, by rw [List.length_map]; omega, fun x hx => ?_, fun x hx best => ?_⟩
    ·obtain ⟨m, hm, rfl⟩ := List.mem_map.mp hx
     obtain ⟨j, rfl, hj⟩ := inB m hm
     exact (pl_of (x8.trans x9) hr7 hj).2
    obtain ⟨m, hm', rfl⟩ := List.mem_map.mp hx
    obtain ⟨j', rfl, hj'⟩ := inB m hm'
    have g1 := pl_of (K := K) (x8.trans x9) hr7 hj
    have g2 := pl_of (K := K) (x8.trans x9) hr7 hj'
    obtain ⟨g1, t1, f1, s1⟩ := g1
    obtain ⟨g2, t2, f2, s2⟩ := g2
    refine ⟨t1, t2, _, _, f1, f2, s1, s2, ?_⟩
    dsimp only
    rw [g1, g2, low j j' hm hm', if_neg (by decide)]
    exact x8.trans x9
   rintro σ H8 ⟨rfl, x8⟩
   have ea8 := x8 _ _ (x7 _ _ (x6 _ _ ea))
   have eb8 := x8 _ _ (x7 _ _ (x6 _ _ eb))
   o_head ⟨ea8⟩
   refine ⟨by rw [List.length_map]; omega, ?_⟩
   rw [upd_ne (Ne.symm nab), eb8]
   refine ⟨rfl, ?_⟩
   exact x1.trans (((x2.trans (x6.trans (x7.trans x8))).set na).set nb)
end
end LW
namespace LW
open PySem L2 MA PyProof.Rows
section
variable {P : Program} {w : World} {K : PySem.W.Frag} {mg : Str → Option Value} {base : Heap}
theorem sc_law : FnScope ["_law_script", "_law_feed_here", "_law_box", "_law_spots_here", "_law_great_here", "_law_one", "_law_at", "_law_twice"] ["_law_script"] (defScope s_law) := ⟨rfl, rfl, rfl, by decide +kernel, rfl, by decide +kernel, by decide +kernel⟩
set_option maxHeartbeats 0 in
theorem ok_law {C : Cz} {f : Addr} {fd : FuncData} (F : Fun K "law" "law" s_law f fd) (T : Txt P K mg C) (F__law_told : FnB P w K mg base (CXE P w) 4 "_law_told" ["_law_spots_here"] (sp_told K C)) (F__law_draw : FnB P w K mg base (CXE P w) 1 "_law_draw" ["_law_feed_here", "_law_many"] sp_draw) (F__law_right : FnB P w K mg base (CXE P w) 5 "_law_right" ["_law_spots_here"] (sp_right K C)) (F__law_world : FnB P w K mg base (CXE P w) 4 "_law_world" ["_law_feed_here", "_law_least", "_law_most"] (sp_world K)) (F__law_feed : FnB P w K mg base (CXE P w) 1 "_law_feed" ["_law_script"] (sp_feed K)) : FnOk P w K mg base (CXE P w) 6 f fd ["_law_script"] (sp_law K C.lp_by_place) := by
 refine okN F (k := 5) sc_law (fun vs H Q E h => ?_) (fun cdv A outer s H vs Q E hr h => ?_)
 ·obtain ⟨a, ns, rfl, _⟩ := h
  rfl
 ·obtain ⟨a, ns, rfl, h⟩ := h
  refine' ⟨_, ?main, ?rest⟩
  case main =>
   refine' pss_cons ?c1 ?c2
   case' c1 => refine' ps_set (i := 1) sc_law.nd rfl (Or.inl rfl) ?c3
   case' c3 => refine' pe_fn F__law_feed (hr.mono (by decide)) rfl passE0 ?c4
   case' c4 => exact (pa_cons (pvF 0) pa_nil)
   case' c2 => refine' pss_cut ?c5 ?c6
   case' c5 => refine' ps_asg ?c7 ?c8
   case' c7 => refine' pe_fn F__law_world (hr.mono (by decide)) rfl passE0 ?c9
   case' c9 => refine' pa_cons (pvF 1) ?c10
   case' c10 => refine' pa_cons pe_int ?c11
   case' c11 => exact (pa_cons pe_int pa_nil)
   case' c8 => refine' pg_F (n := 2) rfl ?c12
   case' c12 => refine' pgs_consF (pg_name (i := 2) sc_law.nd rfl (Or.inl rfl)) ?c13
   case' c13 => exact (pgs_consF (pg_name (i := 3) sc_law.nd rfl (Or.inl rfl)) pgs_nilF)
   case' c6 => refine' pss_cut ?c14 ?c15
   case' c14 => refine' ps_if ?c16 ?c17 ?c18
   case' c16 => refine' PW.pt ?c19
   case' c19 => refine' pw_or ?c20 ?c21
   case' c20 => refine' pt_not ?c22
   case' c22 => refine' pt_valF ?c23
   case' c23 => refine' pe_fn F__law_right (hr.mono (by decide)) rfl passE0 ?c24
   case' c24 => exact (pa_cons (pvF 3) pa_nil)
   case' c21 => refine' pw_or1 ?c25
   case' c25 => refine' pt_cmpF (op_neDK (K := K) rfl (hu64 hr)) ?c26 ?c27 (nomark _)
   case' c26 => refine' pe_fn F__law_told (hr.mono (by decide)) rfl passE0 ?c28
   case' c28 => refine' pa_cons ?c29 pa_nil
   case' c29 => refine' pe_slice sl_F (pvF 3) po_none ?c30
   case' c30 => exact (po_some pe_int)
   case' c27 => refine' pe_tup ?c31
   case' c31 => refine' pa_cons pe_str ?c32
   case' c32 => refine' pa_cons pe_bl ?c33
   case' c33 => exact (pa_cons pe_bl pa_nil)
   case' c17 => refine' pss_one ?c34
   case' c34 => exact (ps_ret pe_bl)
   case c18 => exact pss_nil
   case' c15 => refine' pss_cut ?c35 ?c36
   case' c35 => refine' ps_if ?c37 ?c38 ?c39
   case' c37 => refine' pt_cmpF (op_neDK (K := K) rfl (hu64 hr)) ?c40 ?c41 (nomark _)
   case' c40 => refine' pe_fn F__law_told (hr.mono (by decide)) rfl passE0 ?c42
   case' c42 => refine' pa_cons ?c43 pa_nil
   case' c43 => exact (pe_lst pa_nil)
   case' c41 => refine' pe_tup ?c44
   case' c44 => refine' pa_cons pe_str ?c45
   case' c45 => refine' pa_cons pe_bl ?c46
   case' c46 => exact (pa_cons pe_bl pa_nil)
   case' c38 => refine' pss_one ?c47
   case' c47 => exact (ps_ret pe_bl)
   case c39 => exact pss_nil
   case' c36 => refine' pss_cut ?c48 ?c49
   case' c48 => refine' ps_lc (i := 4) ?c50 ?c51 ?c52 ?c53 ?c54 ?c55 ?c56 ?c57 ?c58
   case c50 => exact (CScope.of_ok (dsc := defScope s_law) (N0 := ["_law_script", "_law_feed_here", "_law_box", "_law_spots_here", "_law_great_here", "_law_one", "_law_at", "_law_twice"]) (N := ["_law_k"]) (k := 1) (js := []) rfl rfl (by decide +kernel))
   case c51 => exact rfl
   case' c52 => refine' pi_range1 rfl T.b_range ?c59
   case' c59 => exact (pa_cons pe_int pa_nil)
   case' c53 => intro _ _ _ _ _ _; exact (pg_name (i := 0) (by show List.Nodup (["_law_k"] : List Str); decide +kernel) rfl (Or.inl rfl))
   case' c54 => intro _ _ _ _ _ _; exact pifs_nil
   case' c55 => intro _ _ _ _ _ _; refine' pe_tup ?c60
   case' c60 => refine' pa_cons (pvF 0) ?c61
   case' c61 => exact (pa_cons (pe_op (OpR.f op_mulA) (pvF 0) (pvF 0)) pa_nil)
   case c56 => exact sc_law.nd
   case c57 => exact rfl
   case c58 => exact rfl
   case' c49 => refine' pss_cut ?c62 ?c63
   case' c62 => refine' ps_if ?c64 ?c65 ?c66
   case' c64 => refine' PW.pt ?c67
   case' c67 => refine' pw_or ?c68 ?c69
   case' c68 => refine' pt_cmpF (op_neDK (K := K) rfl (hu64 hr)) ?c70 ?c71 (nomark _)
   case' c70 => refine' pe_fn F__law_told (hr.mono (by decide)) rfl passE0 ?c72
   case' c72 => exact (pa_cons (pvF 4) pa_nil)
   case' c71 => refine' pe_tup ?c73
   case' c73 => refine' pa_cons pe_str ?c74
   case' c74 => refine' pa_cons pe_bl ?c75
   case' c75 => exact (pa_cons pe_bl pa_nil)
   case' c69 => refine' pw_or1 ?c76
   case' c76 => refine' pt_not ?c77
   case' c77 => refine' pt_valF ?c78
   case' c78 => refine' pe_fn F__law_right (hr.mono (by decide)) rfl passE0 ?c79
   case' c79 => refine' pa_cons ?c80 pa_nil
   case' c80 => refine' pe_slice sl_F (pvF 4) po_none ?c81
   case' c81 => exact (po_some pe_int)
   case' c65 => refine' pss_one ?c82
   case' c82 => exact (ps_ret pe_bl)
   case c66 => exact pss_nil
   case' c63 => refine' pss_cut ?c83 ?c84
   case' c83 => refine' ps_set (i := 5) sc_law.nd rfl (Or.inl rfl) ?c85
   case' c85 => refine' pe_fn F__law_draw (hr.mono (by decide)) rfl passE0 ?c86
   case' c86 => refine' pa_cons (pvF 1) ?c87
   case' c87 => refine' pa_cons ?c88 pa_nil
   case' c88 => refine' pe_callB call_lenF (by rfl) T.b_len PySem.boot_len ?c89
   case' c89 => exact (pa_cons (pvF 3) pa_nil)
   case' c84 => refine' pss_cut ?c90 ?c91
   case' c90 => refine' ps_set (i := 6) ?c92 ?c93 ?c94 ?c95
   case c92 => exact sc_law.nd
   case c93 => exact rfl
   case c94 => exact (Or.inl rfl)
   case' c95 => refine' pe_op ?c96 ?c97 ?c98
   case c96 => exact (OpR.f0 op_add)
   case' c97 => exact (pe_op (OpR.f0 op_add) (pvF 5) pe_int)
   case' c98 => refine' pe_fn F__law_draw (hr.mono (by decide)) rfl passE0 ?c99
   case' c99 => refine' pa_cons (pvF 1) ?c100
   case' c100 => refine' pa_cons ?c101 pa_nil
   case' c101 => refine' pe_op (OpR.f0 op_sub) ?c102 (pvF 5)
   case' c102 => refine' pe_callB call_lenF (by rfl) T.b_len PySem.boot_len ?c103
   case' c103 => exact (pa_cons (pvF 3) pa_nil)
   case' c91 => refine' pss_cut ?c104 ?c105
   case' c104 => refine' ps_set (i := 7) ?c106 ?c107 ?c108 ?c109
   case c106 => exact sc_law.nd
   case c107 => exact rfl
   case c108 => exact (Or.inl rfl)
   case' c109 => refine' pe_op ?c110 ?c111 ?c112
   case c110 => exact op_catF
   case' c111 => refine' pe_op op_catF ?c113 ?c114
   case' c113 => exact (pe_slice sl_F (pvF 3) po_none (po_some (pvF 6)))
   case' c114 => refine' pe_lst ?c115
   case' c115 => exact (pa_cons (pe_ix ix_F (pvF 3) (pvF 5) (fun _ _ => rfl)) pa_nil)
   case' c112 => exact (pe_slice sl_F (pvF 3) (po_some (pvF 6)) po_none)
   case' c105 => refine' pss_cons ?c116 ?c117
   case' c116 => refine' ps_if ?c118 ?c119 ?c120
   case' c118 => refine' pt_cmpF (OpR.f0 op_gt) ?c121 pe_int (nomark _)
   case' c121 => refine' pe_callB call_lenF (by rfl) T.b_len PySem.boot_len ?c122
   case' c122 => exact (pa_cons (pvF 7) pa_nil)
   case' c119 => refine' pss_one ?c123
   case' c123 => refine' ps_ret ?c124
   case' c124 => refine' pe_cmpR ?c125 ?c126 ?c127 ?c128
   case c125 => exact (op_eqDK (K := K) rfl (hu64 hr))
   case' c126 => refine' pe_fn F__law_told (hr.mono (by decide)) rfl passE0 ?c129
   case' c129 => exact (pa_cons (pvF 7) pa_nil)
   case' c127 => refine' pe_tup ?c130
   case' c130 => refine' pa_cons pe_str ?c131
   case' c131 => refine' pa_cons pe_bl ?c132
   case' c132 => exact (pa_cons pe_bl pa_nil)
   case c128 => exact (nomark _)
   case c120 => exact pss_nil
   case' c117 => refine' pss_one ?c133
   case' c133 => refine' ps_ret ?c134
   case' c134 => refine' pe_cmpR ?c135 ?c136 ?c137 ?c138
   case c135 => exact (op_eqDK (K := K) rfl (hu64 hr))
   case' c136 => refine' pe_fn F__law_told (hr.mono (by decide)) rfl passE0 ?c139
   case' c139 => exact (pa_cons (pvF 7) pa_nil)
   case' c137 => refine' pe_tup ?c140
   case' c140 => refine' pa_cons pe_str ?c141
   case' c141 => refine' pa_cons pe_bl ?c142
   case' c142 => exact (pa_cons (pvF 6) pa_nil)
   case c138 => exact (nomark _)
  case rest =>
   obtain ⟨hS, hl, tb0, h⟩ := h
   simp only [L2.start, List.map_cons, List.map_nil, List.length_cons, List.length_nil, Nat.reduceAdd, Nat.reduceSub, List.replicate_succ, List.replicate_zero, List.cons_append, List.nil_append, List.append_nil]
   o_head ⟨sp_feed⟩
   refine ⟨ns, hS, hl, fun p c H0 x0 hp0 hF0 => ?_⟩
   have tb1 := x0 _ _ tb0
   refine ⟨fun σ H' => ∃ (b l : Addr) (x y u v : Int) (qs : List Addr) (rs : List P2), σ = [some (.ref a), some (.ref p), some (.ref b), some (.ref l), none, none, none, none] ∧ DX c 90 p H0 H' ∧ SpOk H' b l x y u v qs rs ∧ 2 ≤ rs.length ∧ H' C.lp_by_place = some (.tbl tg_by_place), ?_, ?_⟩
   ·o_head ⟨sp_world⟩
    refine ⟨2, rfl, 12, rfl, c, 0, hF0, by decide, by decide, by decide, by decide, by decide, fun t b l x y u v qs rs H1 d1 et ok n2 bx by' => ?_⟩
    o_head ⟨gSeqF, gCons, gNil, et⟩
    have np : C.lp_by_place ≠ p := by
     obtain ⟨_, _, _, g, _⟩ := hF0
     exact ne_of tb1 g (by intro z; cases z)
    exact ⟨d1, x, y, u, v, ⟨qs, rs, ok, n2, d1.keep _ _ np tb1⟩⟩
   rintro σ H1 ⟨b, l, x, y, u, v, qs, rs, rfl, d1, ok, n2, tb⟩
   have lq : (qs.map V.ref).length = rs.length := by rw [List.length_map]; exact ok.at_.1
   have n12 := ok.n12
   refine ⟨fun σ H' => σ = [some (.ref a), some (.ref p), some (.ref b), some (.ref l), none, none, none, none] ∧ Ext H1 H', ?_, ?_⟩
   ·o_head ⟨sp_right, sp_told⟩
    refine ⟨qs, ok.sp, rs, ok.at_, n2, n12, ok.nd, tb, fun H2 x2 => ?_⟩
    rw [x2 _ _ ok.sp, lstOf_l, optK_some]
    intro c1 h1
    rw [show cutV (qs.map V.ref) none (some 1) = (qs.map V.ref).take 1 from cut_to _ 1, ← List.map_take]
    refine ⟨_, rfl, _, ((ok.at_.ext x2).ext (Ext.upd h1)).take 1, upd_f h1 (x2 _ _ tb), fun t H3 x3 td => ⟨by decide, fun c2 h2 => ?_⟩⟩
    refine ⟨_, _, rdy_lot (upd_f h2 (td.lot (by rw [List.length_take]; omega))), rdy_lot upd_same, sh_lot, sh_lot, ?_⟩
    dsimp only
    rw [if_neg (by rw [eq_lot]; decide)]
    exact (x2.trans ((Ext.upd h1).trans x3)).then h2
   rintro σ H2 ⟨rfl, x2⟩
   refine ⟨fun σ H' => σ = [some (.ref a), some (.ref p), some (.ref b), some (.ref l), none, none, none, none] ∧ Ext H2 H', ?_, ?_⟩
   ·o_head ⟨sp_told⟩
    refine ⟨by decide, fun c1 h1 => ⟨[], rfl, [], .none, upd_f h1 (x2 _ _ tb), fun t H3 x3 td => ⟨by decide, fun c2 h2 => ?_⟩⟩⟩
    refine ⟨_, _, rdy_many (upd_f h2 (td.many (fun k => absurd k.1 (by decide)))), rdy_many upd_same, sh_many, sh_many, ?_⟩
    dsimp only
    rw [if_neg (by rw [eq_many]; decide)]
    exact ((Ext.upd h1).trans x3).then h2
   rintro σ H3 ⟨rfl, x3⟩
   have x13 := x2.trans x3
   refine ⟨fun σ H' => ∃ (g : Addr) (ts : List Addr), σ = [some (.ref a), some (.ref p), some (.ref b), some (.ref l), some (.ref g), none, none, none] ∧ R2At H' ts (sqs 13) ∧ H' g = some (.lst (ts.map V.ref)) ∧ Ext H3 H', ?_, ?_⟩
   ·walk_at "RD"
    refine tlc_range 13 (fun R hR => by walk_at "RD"; exact hR) (by decide) (fun D i ys H' => ∃ ts : List Addr, ys = ts.map V.ref ∧ R2At H' ts (sqs i) ∧ H' D = some (.lst ys) ∧ Ext H3 H') ?_ ?_ ?_ ?_
    ·intro D hD
     exact ⟨[], rfl, .none, upd_same, .upd hD⟩
    ·rintro D i ys H5 _ ⟨ts, rfl, r5, e5, x5⟩
     exact ⟨e5, by rw [List.length_map, r5.1, sqs_len]; exact Nat.le_refl _⟩
    ·rintro D i ys H5 hD hi ⟨ts, rfl, r5, e5, x5⟩
     rw [Int.zero_add]
     walk_at "RD"
     refine ⟨.inr ⟨bd29 (by omega) (by omega) 100000, bd29 (by omega) (by omega) 100000⟩, by decide, fun t5 h5 => ⟨upd_f h5 e5, ts ++ [t5], by rw [List.map_append]; rfl, ?_, (x5.then h5).set hD⟩⟩
     rw [sqs_succ]
     exact ((r5.ext (Ext.upd h5)).append (.one (r := ((i : Int), (i : Int) * (i : Int))) upd_same)).setL (upd_f h5 e5)
    ·rintro D ys H5 hD ⟨ts, rfl, r5, e5, x5⟩
     exact ⟨_, rfl, ts, r5, e5, x5⟩
   rintro σ H4 ⟨g, ts, rfl, r4, eg, x4⟩
   have x14 := x13.trans x4
   refine ⟨fun σ H' => σ = [some (.ref a), some (.ref p), some (.ref b), some (.ref l), some (.ref g), none, none, none] ∧ Ext H4 H', ?_, ?_⟩
   ·o_head ⟨sp_told, sp_right⟩
    refine ⟨ts, eg, sqs 13, r4, x14 _ _ tb, fun t H5 x5 td => ⟨by decide, fun c2 h2 => ?_⟩⟩
    refine ⟨_, _, rdy_many (upd_f h2 (td.many (fun k => absurd k.2 (by rw [sqs_len]; decide)))), rdy_many upd_same, sh_many, sh_many, ?_⟩
    dsimp only
    rw [if_neg (by rw [eq_many]; decide)]
    have x6 := x5.then (o := .tup [.str "many", .bl false, .bl true]) h2
    rw [x6 _ _ eg, lstOf_l, optK_some]
    intro c3 h3
    rw [show cutV (ts.map V.ref) none (some 12) = (ts.map V.ref).take 12 from cut_to _ 12, ← List.map_take]
    have l12 : ((sqs 13).take 12).length = 12 := by rw [List.length_take, sqs_len]; rfl
    exact ⟨_, rfl, _, ((r4.ext x6).ext (Ext.upd h3)).take 12, by omega, by omega, (List.take_sublist 12 _).nodup (sqs_nd 13), upd_f h3 (x6 _ _ (x14 _ _ tb)), fun H7 x7 => (x6.then h3).trans x7⟩
   rintro σ H5 ⟨rfl, x5⟩
   have x15 := x14.trans x5
   have ok5 := ok.ext x15
   have d5 := d1.ext x15
   have el5 := ok5.sp
   have tb5 := x15 _ _ tb
   refine ⟨fun σ H' => ∃ one : Nat, σ = [some (.ref a), some (.ref p), some (.ref b), some (.ref l), some (.ref g), some (.int (one : Int)), none, none] ∧ one < rs.length ∧ DX c 91 p H5 H', ?_, ?_⟩
   ·o_head ⟨sp_draw, el5, lq⟩
    refine ⟨_, _, d5.feed, by decide, by omega, by omega, fun r H' r0 r1 d => ?_⟩
    exact ⟨r.toNat, by omega, by omega, d⟩
   rintro σ H6 ⟨one, rfl, l1, d6⟩
   have kl : ∀ {H' : Hp} {n : Nat}, DX c n p H5 H' → H' l = some (.lst (qs.map V.ref)) ∧ R2At H' qs rs ∧ H' C.lp_by_place = some (.tbl tg_by_place) := fun d => ⟨d.keep _ _ (d5.feed.lst el5) el5, ⟨ok5.at_.1, fun i q z g1 g2 => d.keep _ _ (d5.feed.tup (ok5.at_.2 i q z g1 g2)) (ok5.at_.2 i q z g1 g2)⟩, d.keep _ _ (by
    obtain ⟨_, _, _, g, _⟩ := d5.feed
    exact ne_of tb5 g (by intro z; cases z)) tb5⟩
   obtain ⟨el6, at6, _⟩ := kl d6
   refine ⟨fun σ H' => ∃ at' : Nat, σ = [some (.ref a), some (.ref p), some (.ref b), some (.ref l), some (.ref g), some (.int (one : Int)), some (.int (at' : Int)), none] ∧ one < at' ∧ at' ≤ rs.length ∧ DX c 92 p H5 H', ?_, ?_⟩
   ·o_head ⟨sp_draw, el6, lq⟩
    refine ⟨_, _, d6.feed, by decide, by omega, by omega, fun r H' r0 r1 d => ?_⟩
    exact ⟨one + 1 + r.toNat, by omega, by omega, by omega, d6.trans d⟩
   rintro σ H7 ⟨at', rfl, l2, l3, d7⟩
   obtain ⟨el7, at7, tb7⟩ := kl d7
   obtain ⟨r, hr'⟩ : ∃ r, rs[one]? = some r := ⟨_, List.getElem?_eq_getElem l1⟩
   obtain ⟨q, hq⟩ : ∃ q, qs[one]? = some q := ⟨_, List.getElem?_eq_getElem (by rw [at7.1]; exact l1)⟩
   have aq : atI (qs.map V.ref) (one : Int) = some (.ref q) := atI_nat (by rw [List.getElem?_map, hq]; rfl)
   refine ⟨fun σ H' => ∃ t : Addr, σ = [some (.ref a), some (.ref p), some (.ref b), some (.ref l), some (.ref g), some (.int (one : Int)), some (.int (at' : Int)), some (.ref t)] ∧ Ext H7 H' ∧ H' t = some (.lst ((qs.take at' ++ [q] ++ qs.drop at').map V.ref)), ?_, ?_⟩
   ·o_head ⟨el7, aq⟩
    intro c1 h1
    rw [cut_to, upd_f h1 el7, seqOf_l, optK_some, aq, optK_some]
    refine ⟨by decide, fun c2 h2 => ?_⟩
    rw [upd_f h2 upd_same, lstOf_l, optK_some]
    refine ⟨by rw [List.length_take, List.length_map, at7.1]; omega, fun c3 h3 => ?_⟩
    rw [upd_f h3 (upd_f h2 (upd_f h1 el7)), lstOf_l, optK_some]
    intro c4 h4
    rw [upd_f h4 upd_same, lstOf_l, optK_some, cut_from]
    refine ⟨by rw [List.length_append, List.length_take, List.length_drop, List.length_map, at7.1]; show _ + 1 + _ < _; omega, fun c5 h5 => ?_⟩
    exact ⟨((((Ext.upd h1).then h2).then h3).then h4).then h5, by rw [List.map_append, List.map_append, List.map_take, List.map_drop]; rfl⟩
   rintro σ H8 ⟨t, rfl, x8, et⟩
   have a8 := at7.ext x8
   have tb8 := x8 _ _ tb7
   have len := tw_len (rs := rs) (r := r) l3
   have lt2 : ((qs.take at' ++ [q] ++ qs.drop at').map V.ref).length = rs.length + 1 := by
    rw [List.length_map, List.length_append, List.length_append, List.length_take, List.length_drop, at7.1]
    show min at' rs.length + 1 + _ = _
    omega
   have aT : R2At H8 (qs.take at' ++ [q] ++ qs.drop at') (tw rs at' r) := ((a8.take at').append (.one (x8 _ _ (at7.2 one q r hq hr')))).append (a8.drop at')
   o_head ⟨sp_told, et, lt2⟩
   by_cases big : (12 : Int) < ((rs.length + 1 : Nat) : Int)
   ·rw [if_pos big]
    refine ⟨_, rfl, _, aT, tb8, fun t H9 x9 td => ⟨by decide, fun c2 h2 => ?_⟩⟩
    refine ⟨_, _, rdy_many (upd_f h2 (td.many (fun k => absurd k.2 (by rw [len]; omega)))), rdy_many upd_same, sh_many, sh_many, ?_⟩
    rw [eq_many]
    exact h _
   ·rw [if_neg big]
    refine ⟨_, rfl, _, aT, tb8, fun t H9 x9 td => ⟨by decide, fun c2 h2 => ?_⟩⟩
    refine ⟨_, _, rdy_spot (upd_f h2 (td.spot (by rw [len]; omega) (by rw [len]; omega) (tw_dup ok.nd hr' l2 l3))), rdy_spot upd_same, sh_spot _, sh_spot _, ?_⟩
    rw [eq_spot]
    exact h _
end
end LW
namespace LW
open PySem L2 MA PyProof.Rows
theorem len_1 {us : List Value} (h : us.length = 1) : ∃ u0, us = [u0] := by
 obtain _ | ⟨u0, us⟩ := us
 ·cases h
 cases us with
 | nil => exact ⟨u0, rfl⟩
 | cons a r => simp at h
theorem len_2 {us : List Value} (h : us.length = 2) : ∃ u0 u1, us = [u0, u1] := by
 obtain _ | ⟨u0, us⟩ := us
 ·cases h
 obtain _ | ⟨u1, us⟩ := us
 ·cases h
 cases us with
 | nil => exact ⟨u0, u1, rfl⟩
 | cons a r => simp at h
theorem len_3 {us : List Value} (h : us.length = 3) : ∃ u0 u1 u2, us = [u0, u1, u2] := by
 obtain _ | ⟨u0, us⟩ := us
 ·cases h
 obtain _ | ⟨u1, us⟩ := us
 ·cases h
 obtain _ | ⟨u2, us⟩ := us
 ·cases h
 cases us with
 | nil => exact ⟨u0, u1, u2, rfl⟩
 | cons a r => simp at h
set_option maxHeartbeats 0 in
theorem all_mk {l : PySem.W.OpenLaw} {w : World} {K : PySem.W.Frag} {h : Heap} {mg : Str → Option Value} {fa : Addr} (X : K.In h) (G : h.Ns mainGlobals mg) (hfa : mg "law" = some (.ref fa))
  {f_check_count : Addr} {od_check_count an_check_count : Option Addr} {sl_check_count : Array (Option Value)} {oc_check_count kV_check_count dc_check_count pm_check_count cd_check_count ct_check_count : Value} {f_check_spots : Addr} {od_check_spots an_check_spots : Option Addr} {sl_check_spots : Array (Option Value)} {oc_check_spots kV_check_spots dc_check_spots pm_check_spots cd_check_spots ct_check_spots : Value} {f_by_place : Addr} {od_by_place an_by_place : Option Addr} {sl_by_place : Array (Option Value)} {oc_by_place kV_by_place dc_by_place pm_by_place cd_by_place ct_by_place : Value} {f_halves : Addr} {od_halves an_halves : Option Addr} {sl_halves : Array (Option Value)} {oc_halves kV_halves dc_halves pm_halves cd_halves ct_halves : Value} {f__law_feed : Addr} {od__law_feed an__law_feed : Option Addr} {sl__law_feed : Array (Option Value)} {oc__law_feed kV__law_feed dc__law_feed pm__law_feed cd__law_feed ct__law_feed : Value} {f__law_draw : Addr} {od__law_draw an__law_draw : Option Addr} {sl__law_draw : Array (Option Value)} {oc__law_draw kV__law_draw dc__law_draw pm__law_draw cd__law_draw ct__law_draw : Value} {f__law_great : Addr} {od__law_great an__law_great : Option Addr} {sl__law_great : Array (Option Value)} {oc__law_great kV__law_great dc__law_great pm__law_great cd__law_great ct__law_great : Value} {f__law_scale : Addr} {od__law_scale an__law_scale : Option Addr} {sl__law_scale : Array (Option Value)} {oc__law_scale kV__law_scale dc__law_scale pm__law_scale cd__law_scale ct__law_scale : Value} {f__law_spot : Addr} {od__law_spot an__law_spot : Option Addr} {sl__law_spot : Array (Option Value)} {oc__law_spot kV__law_spot dc__law_spot pm__law_spot cd__law_spot ct__law_spot : Value} {f__law_dozen : Addr} {od__law_dozen an__law_dozen : Option Addr} {sl__law_dozen : Array (Option Value)} {oc__law_dozen kV__law_dozen dc__law_dozen pm__law_dozen cd__law_dozen ct__law_dozen : Value} {f__law_spots : Addr} {od__law_spots an__law_spots : Option Addr} {sl__law_spots : Array (Option Value)} {oc__law_spots kV__law_spots dc__law_spots pm__law_spots cd__law_spots ct__law_spots : Value} {f__law_world : Addr} {od__law_world an__law_world : Option Addr} {sl__law_world : Array (Option Value)} {oc__law_world kV__law_world dc__law_world pm__law_world cd__law_world ct__law_world : Value} {f__law_told : Addr} {od__law_told an__law_told : Option Addr} {sl__law_told : Array (Option Value)} {oc__law_told kV__law_told dc__law_told pm__law_told cd__law_told ct__law_told : Value} {f__law_right : Addr} {od__law_right an__law_right : Option Addr} {sl__law_right : Array (Option Value)} {oc__law_right kV__law_right dc__law_right pm__law_right cd__law_right ct__law_right : Value} {f_law : Addr} {od_law an_law : Option Addr} {sl_law : Array (Option Value)} {oc_law kV_law dc_law pm_law cd_law ct_law : Value} {cl_LandError : Addr} {cl_NoBox : Addr} {cl_NoLot : Addr} {cl_TooMany : Addr} {cl_NoSpot : Addr} {cdt_NoLot : ClassData} {cdt_TooMany : ClassData} {tk_MOST_SPOTS : Tok} {ynm yq yx yqual yfile : Str} {yn : Nat} {yN yD yfI ycc ycda : Addr} {ybs ysub : List Value} {ysn : List Str} {yab : Bool} {ycol : Option Bool} {ydd yod yan yccd ycdd : Option Addr} {yk0 yk1 yk2 yk3 yk5 : Option Value} {yosl yccs ycds : Array (Option Value)} {ykV ydoc ypm yct yccl ycdl : Value} {yvs : Array Value} {ytf : Tok} {ycdt : ClassData} {cda_by_place tp_by_place : Addr} {cod_by_place : Option Addr} {cvs_by_place : Array Value} {csl_by_place : Array (Option Value)} {cfi_by_place : Str} {cft_by_place cfg_by_place ctt_by_place : Tok} {cfl_by_place ctx_by_place : Int} {cif_by_place : Bool}
  (a_check_count : PySem.W.nsIn K mainGlobals "check_count" = some (some (.ref f_check_count)))
  (l_check_count : K.lookup f_check_count = some ⟨oc_check_count, od_check_count, .func (PySem.W.fnOf "check_count" "check_count" (defArgs s_check_count) (defBody s_check_count) (defScope s_check_count) .none kV_check_count dc_check_count pm_check_count an_check_count cd_check_count ct_check_count), sl_check_count⟩)
  (c_check_count : PySem.W.codeIn K cd_check_count "check_count" = true)
  (k_check_count : PySem.W.keepIn K (.ref f_check_count) = true)
  (a_check_spots : PySem.W.nsIn K mainGlobals "check_spots" = some (some (.ref f_check_spots)))
  (l_check_spots : K.lookup f_check_spots = some ⟨oc_check_spots, od_check_spots, .func (PySem.W.fnOf "check_spots" "check_spots" (defArgs s_check_spots) (defBody s_check_spots) (defScope s_check_spots) .none kV_check_spots dc_check_spots pm_check_spots an_check_spots cd_check_spots ct_check_spots), sl_check_spots⟩)
  (c_check_spots : PySem.W.codeIn K cd_check_spots "check_spots" = true)
  (k_check_spots : PySem.W.keepIn K (.ref f_check_spots) = true)
  (a_by_place : PySem.W.nsIn K mainGlobals "by_place" = some (some (.ref f_by_place)))
  (l_by_place : K.lookup f_by_place = some ⟨oc_by_place, od_by_place, .func (PySem.W.fnOf "by_place" "by_place" (defArgs s_by_place) (defBody s_by_place) (defScope s_by_place) .none kV_by_place dc_by_place pm_by_place an_by_place cd_by_place ct_by_place), sl_by_place⟩)
  (c_by_place : PySem.W.codeIn K cd_by_place "by_place" = true)
  (k_by_place : PySem.W.keepIn K (.ref f_by_place) = true)
  (a_halves : PySem.W.nsIn K mainGlobals "halves" = some (some (.ref f_halves)))
  (l_halves : K.lookup f_halves = some ⟨oc_halves, od_halves, .func (PySem.W.fnOf "halves" "halves" (defArgs s_halves) (defBody s_halves) (defScope s_halves) .none kV_halves dc_halves pm_halves an_halves cd_halves ct_halves), sl_halves⟩)
  (c_halves : PySem.W.codeIn K cd_halves "halves" = true)
  (k_halves : PySem.W.keepIn K (.ref f_halves) = true)
  (a__law_feed : PySem.W.nsIn K mainGlobals "_law_feed" = some (some (.ref f__law_feed)))
  (l__law_feed : K.lookup f__law_feed = some ⟨oc__law_feed, od__law_feed, .func (PySem.W.fnOf "_law_feed" "_law_feed" (defArgs s__law_feed) (defBody s__law_feed) (defScope s__law_feed) .none kV__law_feed dc__law_feed pm__law_feed an__law_feed cd__law_feed ct__law_feed), sl__law_feed⟩)
  (c__law_feed : PySem.W.codeIn K cd__law_feed "_law_feed" = true)
  (k__law_feed : PySem.W.keepIn K (.ref f__law_feed) = true)
  (a__law_draw : PySem.W.nsIn K mainGlobals "_law_draw" = some (some (.ref f__law_draw)))
  (l__law_draw : K.lookup f__law_draw = some ⟨oc__law_draw, od__law_draw, .func (PySem.W.fnOf "_law_draw" "_law_draw" (defArgs s__law_draw) (defBody s__law_draw) (defScope s__law_draw) .none kV__law_draw dc__law_draw pm__law_draw an__law_draw cd__law_draw ct__law_draw), sl__law_draw⟩)
  (c__law_draw : PySem.W.codeIn K cd__law_draw "_law_draw" = true)
  (k__law_draw : PySem.W.keepIn K (.ref f__law_draw) = true)
  (a__law_great : PySem.W.nsIn K mainGlobals "_law_great" = some (some (.ref f__law_great)))
  (l__law_great : K.lookup f__law_great = some ⟨oc__law_great, od__law_great, .func (PySem.W.fnOf "_law_great" "_law_great" (defArgs s__law_great) (defBody s__law_great) (defScope s__law_great) .none kV__law_great dc__law_great pm__law_great an__law_great cd__law_great ct__law_great), sl__law_great⟩)
  (c__law_great : PySem.W.codeIn K cd__law_great "_law_great" = true)
  (k__law_great : PySem.W.keepIn K (.ref f__law_great) = true)
  (a__law_scale : PySem.W.nsIn K mainGlobals "_law_scale" = some (some (.ref f__law_scale)))
  (l__law_scale : K.lookup f__law_scale = some ⟨oc__law_scale, od__law_scale, .func (PySem.W.fnOf "_law_scale" "_law_scale" (defArgs s__law_scale) (defBody s__law_scale) (defScope s__law_scale) .none kV__law_scale dc__law_scale pm__law_scale an__law_scale cd__law_scale ct__law_scale), sl__law_scale⟩)
  (c__law_scale : PySem.W.codeIn K cd__law_scale "_law_scale" = true)
  (k__law_scale : PySem.W.keepIn K (.ref f__law_scale) = true)
  (a__law_spot : PySem.W.nsIn K mainGlobals "_law_spot" = some (some (.ref f__law_spot)))
  (l__law_spot : K.lookup f__law_spot = some ⟨oc__law_spot, od__law_spot, .func (PySem.W.fnOf "_law_spot" "_law_spot" (defArgs s__law_spot) (defBody s__law_spot) (defScope s__law_spot) .none kV__law_spot dc__law_spot pm__law_spot an__law_spot cd__law_spot ct__law_spot), sl__law_spot⟩)
  (c__law_spot : PySem.W.codeIn K cd__law_spot "_law_spot" = true)
  (k__law_spot : PySem.W.keepIn K (.ref f__law_spot) = true)
  (a__law_dozen : PySem.W.nsIn K mainGlobals "_law_dozen" = some (some (.ref f__law_dozen)))
  (l__law_dozen : K.lookup f__law_dozen = some ⟨oc__law_dozen, od__law_dozen, .func (PySem.W.fnOf "_law_dozen" "_law_dozen" (defArgs s__law_dozen) (defBody s__law_dozen) (defScope s__law_dozen) .none kV__law_dozen dc__law_dozen pm__law_dozen an__law_dozen cd__law_dozen ct__law_dozen), sl__law_dozen⟩)
  (c__law_dozen : PySem.W.codeIn K cd__law_dozen "_law_dozen" = true)
  (k__law_dozen : PySem.W.keepIn K (.ref f__law_dozen) = true)
  (a__law_spots : PySem.W.nsIn K mainGlobals "_law_spots" = some (some (.ref f__law_spots)))
  (l__law_spots : K.lookup f__law_spots = some ⟨oc__law_spots, od__law_spots, .func (PySem.W.fnOf "_law_spots" "_law_spots" (defArgs s__law_spots) (defBody s__law_spots) (defScope s__law_spots) .none kV__law_spots dc__law_spots pm__law_spots an__law_spots cd__law_spots ct__law_spots), sl__law_spots⟩)
  (c__law_spots : PySem.W.codeIn K cd__law_spots "_law_spots" = true)
  (k__law_spots : PySem.W.keepIn K (.ref f__law_spots) = true)
  (a__law_world : PySem.W.nsIn K mainGlobals "_law_world" = some (some (.ref f__law_world)))
  (l__law_world : K.lookup f__law_world = some ⟨oc__law_world, od__law_world, .func (PySem.W.fnOf "_law_world" "_law_world" (defArgs s__law_world) (defBody s__law_world) (defScope s__law_world) .none kV__law_world dc__law_world pm__law_world an__law_world cd__law_world ct__law_world), sl__law_world⟩)
  (c__law_world : PySem.W.codeIn K cd__law_world "_law_world" = true)
  (k__law_world : PySem.W.keepIn K (.ref f__law_world) = true)
  (a__law_told : PySem.W.nsIn K mainGlobals "_law_told" = some (some (.ref f__law_told)))
  (l__law_told : K.lookup f__law_told = some ⟨oc__law_told, od__law_told, .func (PySem.W.fnOf "_law_told" "_law_told" (defArgs s__law_told) (defBody s__law_told) (defScope s__law_told) .none kV__law_told dc__law_told pm__law_told an__law_told cd__law_told ct__law_told), sl__law_told⟩)
  (c__law_told : PySem.W.codeIn K cd__law_told "_law_told" = true)
  (k__law_told : PySem.W.keepIn K (.ref f__law_told) = true)
  (a__law_right : PySem.W.nsIn K mainGlobals "_law_right" = some (some (.ref f__law_right)))
  (l__law_right : K.lookup f__law_right = some ⟨oc__law_right, od__law_right, .func (PySem.W.fnOf "_law_right" "_law_right" (defArgs s__law_right) (defBody s__law_right) (defScope s__law_right) .none kV__law_right dc__law_right pm__law_right an__law_right cd__law_right ct__law_right), sl__law_right⟩)
  (c__law_right : PySem.W.codeIn K cd__law_right "_law_right" = true)
  (k__law_right : PySem.W.keepIn K (.ref f__law_right) = true)
  (a_law : PySem.W.nsIn K mainGlobals "law" = some (some (.ref f_law)))
  (l_law : K.lookup f_law = some ⟨oc_law, od_law, .func (PySem.W.fnOf "law" "law" (defArgs s_law) (defBody s_law) (defScope s_law) .none kV_law dc_law pm_law an_law cd_law ct_law), sl_law⟩)
  (c_law : PySem.W.codeIn K cd_law "law" = true)
  (k_law : PySem.W.keepIn K (.ref f_law) = true)
  (z_ValueError : PySem.W.nsIn K mainGlobals "ValueError" = some none)
  (z_any : PySem.W.nsIn K mainGlobals "any" = some none)
  (z_bool : PySem.W.nsIn K mainGlobals "bool" = some none)
  (z_enumerate : PySem.W.nsIn K mainGlobals "enumerate" = some none)
  (z_int : PySem.W.nsIn K mainGlobals "int" = some none)
  (z_isinstance : PySem.W.nsIn K mainGlobals "isinstance" = some none)
  (z_len : PySem.W.nsIn K mainGlobals "len" = some none)
  (z_list : PySem.W.nsIn K mainGlobals "list" = some none)
  (z_max : PySem.W.nsIn K mainGlobals "max" = some none)
  (z_min : PySem.W.nsIn K mainGlobals "min" = some none)
  (z_range : PySem.W.nsIn K mainGlobals "range" = some none)
  (z_sorted : PySem.W.nsIn K mainGlobals "sorted" = some none)
  (z_super : PySem.W.nsIn K mainGlobals "super" = some none)
  (z_tuple : PySem.W.nsIn K mainGlobals "tuple" = some none)
  (a_MOST_SPOTS : PySem.W.nsIn K mainGlobals "MOST_SPOTS" = some (some (.int 12 tk_MOST_SPOTS)))
  (a_LandError : PySem.W.nsIn K mainGlobals "LandError" = some (some (.ref cl_LandError)))
  (a_NoBox : PySem.W.nsIn K mainGlobals "NoBox" = some (some (.ref cl_NoBox)))
  (a_NoLot : PySem.W.nsIn K mainGlobals "NoLot" = some (some (.ref cl_NoLot)))
  (a_TooMany : PySem.W.nsIn K mainGlobals "TooMany" = some (some (.ref cl_TooMany)))
  (a_NoSpot : PySem.W.nsIn K mainGlobals "NoSpot" = some (some (.ref cl_NoSpot)))
  (x1_NoLot : PySem.W.excIn K cl_NoLot [.type "ValueError", .type "Exception", .type "BaseException", .type "object"] "ValueError.__new__" = true)
  (x2_NoLot : PySem.W.findIn K (.ref cl_NoLot) "__getattribute__" = some (some (.builtin "BaseException.__getattribute__")))
  (x3_NoLot : PySem.W.findIn K (.ref cl_NoLot) "__getattr__" = some none)
  (x4_NoLot : PySem.W.findIn K (.ref cl_NoLot) "__class__" = some (some (.builtin "object.__class__")))
  (x5_NoLot : PySem.W.specialIn K (.builtin "object.__class__") "__get__" = some (some (.builtin "getset_descriptor.__get__")))
  (x6_NoLot : PySem.W.takesIn K (.builtin "object.__class__") = some true)
  (x7_NoLot : PySem.W.clsIn K cl_NoLot = some cdt_NoLot)
  (x8_NoLot : PySem.W.mroIn K cl_NoLot (.type "BaseException") = some true)
  (x9_NoLot : PySem.W.mroIn K cl_NoLot (.type "object") = some true)
  (x1_TooMany : PySem.W.excIn K cl_TooMany [.type "ValueError", .type "Exception", .type "BaseException", .type "object"] "ValueError.__new__" = true)
  (x2_TooMany : PySem.W.findIn K (.ref cl_TooMany) "__getattribute__" = some (some (.builtin "BaseException.__getattribute__")))
  (x3_TooMany : PySem.W.findIn K (.ref cl_TooMany) "__getattr__" = some none)
  (x4_TooMany : PySem.W.findIn K (.ref cl_TooMany) "__class__" = some (some (.builtin "object.__class__")))
  (x5_TooMany : PySem.W.specialIn K (.builtin "object.__class__") "__get__" = some (some (.builtin "getset_descriptor.__get__")))
  (x6_TooMany : PySem.W.takesIn K (.builtin "object.__class__") = some true)
  (x7_TooMany : PySem.W.clsIn K cl_TooMany = some cdt_TooMany)
  (x8_TooMany : PySem.W.mroIn K cl_TooMany (.type "BaseException") = some true)
  (x9_TooMany : PySem.W.mroIn K cl_TooMany (.type "object") = some true)
  (y1_ : K.lookup cl_NoSpot = some (excClassObj ynm yq cl_NoSpot yN ybs (.ref yD :: veB) true ysn ysub yab ycol ydd yk0 yk1 yk2 yk3 yk5 "ValueError.__new__"))
  (y2_ : PySem.W.tailIn K veB (.ref yD :: veB) = true)
  (y3_ : PySem.W.nsOkIn K yN = true)
  (y4_ : PySem.W.nsIn K yN "__init__" = some (some (.ref yfI)))
  (y5_ : PySem.W.alongIn K "__init__" (.ref yD :: veB) = some (some veInit))
  (y6_ : K.lookup yfI = some ⟨.type "function", yod, .func (PySem.W.fnX "__init__" yqual (initParams ⟨10, 17, 10, 21⟩ ⟨10, 23, 10, 25⟩) (initBody yx yn ⟨11, 8, 11, 13⟩ ⟨11, 8, 11, 15⟩ ⟨11, 8, 11, 24⟩ ⟨11, 25, 11, 46⟩ ⟨11, 8, 11, 47⟩ ⟨11, 8, 11, 47⟩ ⟨12, 8, 12, 12⟩ ⟨12, 8, 12, 15⟩ ⟨12, 18, 12, 20⟩ ⟨12, 8, 12, 20⟩) initScope [("__class__", ycc)] .none ykV ydoc ypm yan (.ref ycda) yct), yosl⟩)
  (y7_ : PySem.W.codeIn K (.ref ycda) yqual = true)
  (y8_ : K.lookup ycc = some ⟨yccl, yccd, .cell (some (.ref cl_NoSpot)), yccs⟩)
  (y9_ : K.lookup ycda = some ⟨ycdl, ycdd, .fields yvs, ycds⟩)
  (y10_ : yvs[2]? = some (.str yfile ytf))
  (y11_ : (l.prog.main.file == yfile) = true)
  (y12_ : (l.prog.main.scope.names.lookup ("super" : Str)).isSome = false)
  (y14_ : PySem.W.nsIn K cStatics "thirdparty.any" = some none)
  (y15_ : PySem.W.mroIn K cl_NoSpot (.ref cl_NoSpot) = some true)
  (y16_ : PySem.W.mroIn K cl_NoSpot (.type "ValueError") = some true)
  (y17_ : PySem.W.mroIn K cl_NoSpot (.type "object") = some true)
  (y18_ : (PySem.W.findIn K (.ref cl_NoSpot) "__setattr__" = some (some (.builtin "object.__setattr__"))))
  (y19_ : (PySem.W.findIn K (.ref cl_NoSpot) "at" = some none))
  (y20_ : PySem.W.keepIn K (.ref cl_NoSpot) = true)
  (y21_ : (PySem.W.findIn K (.ref cl_NoSpot) "__getattribute__" = some (some (.builtin "BaseException.__getattribute__"))))
  (y22_ : (PySem.W.findIn K (.ref cl_NoSpot) "__getattr__" = some none))
  (y23_ : (PySem.W.findIn K (.ref cl_NoSpot) "__class__" = some (some (.builtin "object.__class__"))))
  (y24_ : PySem.W.specialIn K (.builtin "object.__class__") "__get__" = some (some (.builtin "getset_descriptor.__get__")))
  (y25_ : PySem.W.takesIn K (.builtin "object.__class__") = some true)
  (y26_ : PySem.W.clsIn K cl_NoSpot = some ycdt)
  (y27_ : PySem.W.mroIn K cl_NoSpot (.type "BaseException") = some true)
  (y28_ : PySem.W.hasDictIn K cl_NoSpot = true)
  (m_NoLot_NoLot : PySem.W.exmOne K (.ref cl_NoLot) (.ref cl_NoLot) = some true)
  (m_TooMany_NoLot : PySem.W.exmOne K (.ref cl_TooMany) (.ref cl_NoLot) = some false)
  (m_TooMany_TooMany : PySem.W.exmOne K (.ref cl_TooMany) (.ref cl_TooMany) = some true)
  (m_NoSpot_NoLot : PySem.W.exmOne K (.ref cl_NoSpot) (.ref cl_NoLot) = some false)
  (m_NoSpot_TooMany : PySem.W.exmOne K (.ref cl_NoSpot) (.ref cl_TooMany) = some false)
  (m_NoSpot_NoSpot : PySem.W.exmOne K (.ref cl_NoSpot) (.ref cl_NoSpot) = some true)
  (i_NoLot_ValueError : PySem.W.kitOne K (.ref cl_NoLot) (.type "ValueError") = some true)
  (i_TooMany_ValueError : PySem.W.kitOne K (.ref cl_TooMany) (.type "ValueError") = some true)
  (j_NoLot_NoSpot_TooMany_NoBox : PySem.W.kitAny K (.ref cl_NoLot) [(.ref cl_NoSpot), (.ref cl_TooMany), (.ref cl_NoBox)] = some false)
  (j_TooMany_NoSpot_NoLot_NoBox : PySem.W.kitAny K (.ref cl_TooMany) [(.ref cl_NoSpot), (.ref cl_NoLot), (.ref cl_NoBox)] = some false)
  (j_NoSpot_TooMany_NoLot_NoBox : PySem.W.kitAny K (.ref cl_NoSpot) [(.ref cl_TooMany), (.ref cl_NoLot), (.ref cl_NoBox)] = some false)
  (t0_by_place : cd_by_place = .ref cda_by_place) (t1_by_place : K.lookup cda_by_place = some ⟨.type "code", cod_by_place, .fields cvs_by_place, csl_by_place⟩) (t2_by_place : cvs_by_place[11]? = some (.ref tp_by_place)) (t3_by_place : cvs_by_place.getD 11 .none = .ref tp_by_place) (t4_by_place : cvs_by_place.getD 18 .none = .str cfi_by_place cft_by_place) (t5_by_place : cvs_by_place.getD 7 .none = .int cfl_by_place cfg_by_place) (t6_by_place : cvs_by_place.getD 9 .none = .bool cif_by_place) (t7_by_place : cvs_by_place.getD 10 .none = .int ctx_by_place ctt_by_place) (t8_by_place : cda_by_place ≠ tp_by_place) (t9_by_place : K.lookup tp_by_place = none) :
  (∀ z ∈ [(tp_by_place, tg_by_place)], ∃ (y : Str) (f c : Addr), y ∈ (["by_place"] : List Str) ∧ TabK K y f c z.1) ∧ ∃ fd : FuncData, (∀ (s : Shared) (v : Value), BindsTo s fd ⟨[v], []⟩ [("_law_script", v)]) ∧ ∀ base : Heap, K.In base → base.Ns mainGlobals mg → BaseT mg base [(tp_by_place, tg_by_place)] → FnOk l.prog w K mg base (CXE l.prog w) 6 fa fd ["_law_script"] (sp_law K tp_by_place) := by
 have e := hfa.symm.trans (PySem.W.mg_of X G a_law)
 cases e
 have T : Txt l.prog K mg ⟨cl_LandError, cl_NoBox, cl_NoLot, cl_TooMany, cl_NoSpot, cda_by_place, tp_by_place⟩ := ⟨PySem.W.mg_none_of X G z_ValueError, PySem.W.mg_none_of X G z_any, PySem.W.mg_none_of X G z_bool, PySem.W.mg_none_of X G z_enumerate, PySem.W.mg_none_of X G z_int, PySem.W.mg_none_of X G z_isinstance, PySem.W.mg_none_of X G z_len, PySem.W.mg_none_of X G z_list, PySem.W.mg_none_of X G z_max, PySem.W.mg_none_of X G z_min, PySem.W.mg_none_of X G z_range, PySem.W.mg_none_of X G z_sorted, PySem.W.mg_none_of X G z_super, PySem.W.mg_none_of X G z_tuple, ⟨_, ⟨_, _, _, _, _, _, _, _, _, _, _, _, _, _, _, y1_, y2_, y3_, y4_, y5_⟩, ⟨_, ⟨10, 17, 10, 21⟩, ⟨10, 23, 10, 25⟩, _, _, ⟨11, 8, 11, 13⟩, ⟨11, 8, 11, 15⟩, ⟨11, 8, 11, 24⟩, ⟨11, 25, 11, 46⟩, ⟨11, 8, 11, 47⟩, ⟨11, 8, 11, 47⟩, ⟨12, 8, 12, 12⟩, ⟨12, 8, 12, 15⟩, ⟨12, 18, 12, 20⟩, ⟨12, 8, 12, 20⟩, _, _, _, _, _, _, _, _, _, _, _, _, _, _, _, _, _, _, y6_, y7_, y8_, y9_, y10_, y11_, y12_, rfl⟩, y14_, y15_, y16_, y17_, y18_, y19_⟩, y20_, ⟨y21_, y22_, y23_, y24_, y25_, by rw [y26_]; rfl, y27_, y17_⟩, y19_, y28_, PySem.W.mg_of X G a_LandError, PySem.W.mg_of X G a_NoBox, PySem.W.mg_of X G a_NoLot, PySem.W.mg_of X G a_TooMany, PySem.W.mg_of X G a_NoSpot, ⟨x1_NoLot, x2_NoLot, x3_NoLot, x4_NoLot, x5_NoLot, x6_NoLot, (by rw [x7_NoLot]; rfl), x8_NoLot, x9_NoLot⟩, ⟨x1_TooMany, x2_TooMany, x3_TooMany, x4_TooMany, x5_TooMany, x6_TooMany, (by rw [x7_TooMany]; rfl), x8_TooMany, x9_TooMany⟩, ⟨_, PySem.W.mg_of X G a_MOST_SPOTS⟩, m_NoLot_NoLot, m_TooMany_NoLot, m_TooMany_TooMany, m_NoSpot_NoLot, m_NoSpot_TooMany, m_NoSpot_NoSpot, i_NoLot_ValueError, i_TooMany_ValueError, j_NoLot_NoSpot_TooMany_NoBox, j_TooMany_NoSpot_NoLot_NoBox, j_NoSpot_TooMany_NoLot_NoBox⟩
 have U_check_count := fun_mk (st := s_check_count) l_check_count c_check_count k_check_count
 have B_check_count := U_check_count.binds (ps := ["spots"]) fun _ _ _ _ _ _ us hl => by obtain ⟨u0, rfl⟩ := len_1 hl; rfl
 have U_check_spots := fun_mk (st := s_check_spots) l_check_spots c_check_spots k_check_spots
 have B_check_spots := U_check_spots.binds (ps := ["spots"]) fun _ _ _ _ _ _ us hl => by obtain ⟨u0, rfl⟩ := len_1 hl; rfl
 have U_by_place := fun_mk (st := s_by_place) l_by_place c_by_place k_by_place
 have B_by_place := U_by_place.binds (ps := ["spots"]) fun _ _ _ _ _ _ us hl => by obtain ⟨u0, rfl⟩ := len_1 hl; rfl
 have U_halves := fun_mk (st := s_halves) l_halves c_halves k_halves
 have B_halves := U_halves.binds (ps := ["spots"]) fun _ _ _ _ _ _ us hl => by obtain ⟨u0, rfl⟩ := len_1 hl; rfl
 have U__law_feed := fun_mk (st := s__law_feed) l__law_feed c__law_feed k__law_feed
 have B__law_feed := U__law_feed.binds (ps := ["_law_script"]) fun _ _ _ _ _ _ us hl => by obtain ⟨u0, rfl⟩ := len_1 hl; rfl
 have U__law_draw := fun_mk (st := s__law_draw) l__law_draw c__law_draw k__law_draw
 have B__law_draw := U__law_draw.binds (ps := ["_law_feed_here", "_law_many"]) fun _ _ _ _ _ _ us hl => by obtain ⟨u0, u1, rfl⟩ := len_2 hl; rfl
 have U__law_great := fun_mk (st := s__law_great) l__law_great c__law_great k__law_great
 have B__law_great := U__law_great.binds (ps := ["_law_feed_here", "_law_pieces"]) fun _ _ _ _ _ _ us hl => by obtain ⟨u0, u1, rfl⟩ := len_2 hl; rfl
 have U__law_scale := fun_mk (st := s__law_scale) l__law_scale c__law_scale k__law_scale
 have B__law_scale := U__law_scale.binds (ps := ["_law_feed_here"]) fun _ _ _ _ _ _ us hl => by obtain ⟨u0, rfl⟩ := len_1 hl; rfl
 have U__law_spot := fun_mk (st := s__law_spot) l__law_spot c__law_spot k__law_spot
 have B__law_spot := U__law_spot.binds (ps := ["_law_feed_here", "_law_style"]) fun _ _ _ _ _ _ us hl => by obtain ⟨u0, u1, rfl⟩ := len_2 hl; rfl
 have U__law_dozen := fun_mk (st := s__law_dozen) l__law_dozen c__law_dozen k__law_dozen
 have B__law_dozen := U__law_dozen.binds (ps := ["_law_feed_here"]) fun _ _ _ _ _ _ us hl => by obtain ⟨u0, rfl⟩ := len_1 hl; rfl
 have U__law_spots := fun_mk (st := s__law_spots) l__law_spots c__law_spots k__law_spots
 have B__law_spots := U__law_spots.binds (ps := ["_law_feed_here", "_law_least", "_law_most"]) fun _ _ _ _ _ _ us hl => by obtain ⟨u0, u1, u2, rfl⟩ := len_3 hl; rfl
 have U__law_world := fun_mk (st := s__law_world) l__law_world c__law_world k__law_world
 have B__law_world := U__law_world.binds (ps := ["_law_feed_here", "_law_least", "_law_most"]) fun _ _ _ _ _ _ us hl => by obtain ⟨u0, u1, u2, rfl⟩ := len_3 hl; rfl
 have U__law_told := fun_mk (st := s__law_told) l__law_told c__law_told k__law_told
 have B__law_told := U__law_told.binds (ps := ["_law_spots_here"]) fun _ _ _ _ _ _ us hl => by obtain ⟨u0, rfl⟩ := len_1 hl; rfl
 have U__law_right := fun_mk (st := s__law_right) l__law_right c__law_right k__law_right
 have B__law_right := U__law_right.binds (ps := ["_law_spots_here"]) fun _ _ _ _ _ _ us hl => by obtain ⟨u0, rfl⟩ := len_1 hl; rfl
 have U_law := fun_mk (st := s_law) l_law c_law k_law
 have TK_by_place : TabK K "by_place" f_by_place cda_by_place tp_by_place := ⟨a_by_place, ⟨_, _, _, _, l_by_place, t0_by_place⟩, ⟨_, _, _, _, _, _, _, _, _, t1_by_place, rfl, rfl, t2_by_place, t3_by_place, t4_by_place, t5_by_place, t6_by_place, t7_by_place⟩, t8_by_place, t9_by_place⟩
 refine ⟨fun z hz => ?_, ?_⟩
 ·simp only [List.mem_cons, List.not_mem_nil, or_false] at hz
  subst hz
  exact ⟨_, _, _, by simp, TK_by_place⟩
 refine ⟨PySem.W.fnOf "law" "law" (defArgs s_law) (defBody s_law) (defScope s_law) .none kV_law dc_law pm_law an_law cd_law ct_law, fun s v => .of_eq rfl, fun base X1 G1 B1 => ?_⟩
 have F_check_count : FnB l.prog w K mg base (CXE l.prog w) 1 "check_count" ["spots"] (sp_check_countE ⟨cl_LandError, cl_NoBox, cl_NoLot, cl_TooMany, cl_NoSpot, cda_by_place, tp_by_place⟩) := .of (ok_check_count U_check_count T ) (PySem.W.mg_of X G a_check_count) k_check_count B_check_count
 have F_check_spots : FnB l.prog w K mg base (CXE l.prog w) 2 "check_spots" ["spots"] (sp_csE K ⟨cl_LandError, cl_NoBox, cl_NoLot, cl_TooMany, cl_NoSpot, cda_by_place, tp_by_place⟩) := .of (ok_check_spots U_check_spots T F_check_count) (PySem.W.mg_of X G a_check_spots) k_check_spots B_check_spots
 have F_by_place : FnB l.prog w K mg base (CXE l.prog w) 2 "by_place" ["spots"] (sp_place K ⟨cl_LandError, cl_NoBox, cl_NoLot, cl_TooMany, cl_NoSpot, cda_by_place, tp_by_place⟩) := .of (ok_by_place U_by_place T TK_by_place.lf (lamB_of (tag := tg_by_place) TK_by_place X1 G1 B1 (by simp)) ) (PySem.W.mg_of X G a_by_place) k_by_place B_by_place
 have F_halves : FnB l.prog w K mg base (CXE l.prog w) 3 "halves" ["spots"] (sp_halvesE K ⟨cl_LandError, cl_NoBox, cl_NoLot, cl_TooMany, cl_NoSpot, cda_by_place, tp_by_place⟩) := .of (ok_halves U_halves T F_by_place F_check_spots) (PySem.W.mg_of X G a_halves) k_halves B_halves
 have F__law_feed : FnB l.prog w K mg base (CXE l.prog w) 1 "_law_feed" ["_law_script"] (sp_feed K) := .of (ok__law_feed U__law_feed T ) (PySem.W.mg_of X G a__law_feed) k__law_feed B__law_feed
 have F__law_draw : FnB l.prog w K mg base (CXE l.prog w) 1 "_law_draw" ["_law_feed_here", "_law_many"] sp_draw := .of (ok__law_draw U__law_draw T ) (PySem.W.mg_of X G a__law_draw) k__law_draw B__law_draw
 have F__law_great : FnB l.prog w K mg base (CXE l.prog w) 2 "_law_great" ["_law_feed_here", "_law_pieces"] sp_great := .of (ok__law_great U__law_great T F__law_draw) (PySem.W.mg_of X G a__law_great) k__law_great B__law_great
 have F__law_scale : FnB l.prog w K mg base (CXE l.prog w) 3 "_law_scale" ["_law_feed_here"] sp_scale := .of (ok__law_scale U__law_scale T F__law_great F__law_draw) (PySem.W.mg_of X G a__law_scale) k__law_scale B__law_scale
 have F__law_spot : FnB l.prog w K mg base (CXE l.prog w) 2 "_law_spot" ["_law_feed_here", "_law_style"] sp_spot := .of (ok__law_spot U__law_spot T F__law_draw) (PySem.W.mg_of X G a__law_spot) k__law_spot B__law_spot
 have F__law_dozen : FnB l.prog w K mg base (CXE l.prog w) 2 "_law_dozen" ["_law_feed_here"] sp_dozen := .of (ok__law_dozen U__law_dozen T F__law_draw) (PySem.W.mg_of X G a__law_dozen) k__law_dozen B__law_dozen
 have F__law_spots : FnB l.prog w K mg base (CXE l.prog w) 3 "_law_spots" ["_law_feed_here", "_law_least", "_law_most"] (sp_spots K) := .of (ok__law_spots U__law_spots T F__law_draw F__law_spot F__law_dozen) (PySem.W.mg_of X G a__law_spots) k__law_spots B__law_spots
 have F__law_world : FnB l.prog w K mg base (CXE l.prog w) 4 "_law_world" ["_law_feed_here", "_law_least", "_law_most"] (sp_world K) := .of (ok__law_world U__law_world T F__law_draw F__law_scale F__law_spots) (PySem.W.mg_of X G a__law_world) k__law_world B__law_world
 have F__law_told : FnB l.prog w K mg base (CXE l.prog w) 4 "_law_told" ["_law_spots_here"] (sp_told K ⟨cl_LandError, cl_NoBox, cl_NoLot, cl_TooMany, cl_NoSpot, cda_by_place, tp_by_place⟩) := .of (ok__law_told U__law_told T F_halves) (PySem.W.mg_of X G a__law_told) k__law_told B__law_told
 have F__law_right : FnB l.prog w K mg base (CXE l.prog w) 5 "_law_right" ["_law_spots_here"] (sp_right K ⟨cl_LandError, cl_NoBox, cl_NoLot, cl_TooMany, cl_NoSpot, cda_by_place, tp_by_place⟩) := .of (ok__law_right U__law_right T F__law_told) (PySem.W.mg_of X G a__law_right) k__law_right B__law_right
 exact ok_law U_law T F__law_told F__law_draw F__law_right F__law_world F__law_feed
theorem walk {l : PySem.W.OpenLaw} {q : Program} {loose : List Str} {XP : (Str → Option Value) → Heap → Prop} {YP : World → Heap → Prop} {d : DefRec} {K : Params → PySem.W.Frag} (hn : l.most = some 63) (hdf : d.params.defaults = []) (tp_by_place : Addr)
  (hTs : ∀ z ∈ [(tp_by_place, tg_by_place)], ([(tp_by_place, tg_by_place)] : List (Addr × Array Value)).lookup z.1 = some z.2) (hq : ((["by_place"] : List Str).all fun y => ((PyProof.Rows.recsOf q).map (·.name)).contains y) = true)
  (hY : ∀ (w : World) (h : Heap), YP w h → (K w.params).In h)
  (F : ∀ (w : World) (mg : Str → Option Value) (fa : Addr) (h : Heap), (K w.params).In h → h.Ns mainGlobals mg → mg d.name = some (.ref fa) →
   (∀ z ∈ [(tp_by_place, tg_by_place)], ∃ (y : Str) (f c : Addr), y ∈ (["by_place"] : List Str) ∧ TabK (K w.params) y f c z.1) ∧ ∃ fd : FuncData, (∀ (s : Shared) (u : Value), BindsTo s fd ⟨[u], []⟩ [("_law_script", u)]) ∧ ∀ base : Heap, (K w.params).In base → base.Ns mainGlobals mg → BaseT mg base [(tp_by_place, tg_by_place)] → FnOk l.prog w (K w.params) mg base (CXE l.prog w) 6 fa fd ["_law_script"] (sp_law (K w.params) tp_by_place)) :
  PySem.W.WalkO q loose XP YP l.row.toRowW d [] (fun f vs => PySem.call f vs) :=
 L2.walk_ofT (n := 63) (k := 6) (x := "_law_script") (CX := fun w => (CXE l.prog w)) (sp := fun w => sp_law (K w.params) tp_by_place) [(tp_by_place, tg_by_place)] ["by_place"] hn (by decide) hdf ⟨rfl, by decide, by decide⟩ hTs (fun y hy => List.contains_iff_mem.mp (List.all_eq_true.mp hq y hy)) hY F (fun _ _ a ns hl hT hS => ⟨a, ns, rfl, hS, hl, hT (tp_by_place, tg_by_place) (by simp), fun _ => rfl⟩) fun _ _ _ _ _ z => (by obtain ⟨_, _, _, _, _, _, _, _, _, _, _, _, _, _, _, hE⟩ := z; exact hE)
end LW
end
namespace LW
open PySem
noncomputable def isN : Stmt → Bool
 | .Assign [.Name x _] _ _ => x == ("__name__" : Str)
 | _ => false
noncomputable def qv : Program := { PySem.Challenge.pw_nearlands_k43_halves with main := { PySem.Challenge.pw_nearlands_k43_halves.main with body := PySem.Challenge.pw_nearlands_k43_halves.main.body.filter fun s => !isN s } }
end LW
open PySem PySem.W PyProof.Rows
local macro_rules | `(tactic| o_head $H) => `(tactic| (refine holds_open (q := LW.qv) (loose := []) (Xt := fun s => xlAt LW.qv [] s && recOk (RowW.records PySem.Challenge.rw_nearlands_k43_halves.row.toRowW) s) (XP := XL LW.qv []) (Yf := Hook.obs $H) (Ya := Hook.val $H) (YP := Hook.says $H) (N := 30000) ?hl (Hook.of $H) (Hook.keeps $H) (fun s e => xl_of s (Bool.and_eq_true_iff.mp e).1) XL.keeps (by rfl) (by rfl) (by rfl) (fun s e => recFacts_of (Bool.and_eq_true_iff.mp e).2) (by rfl) (by first | assumption | decide +kernel) (by decide +kernel) ⟨rfl, rfl, rfl, rfl, rfl, by decide +kernel⟩ ?hw ?hc))
set_option maxRecDepth 100000 in
set_option maxHeartbeats 0 in
theorem PySem.Challenge.cw_nearlands_k43_halves_holds : PySem.Challenge.rw_nearlands_k43_halves.Holds := by
 w_on; o_law; k_head
 case hl =>
  intro w
  unfold openEnds fencedOpening topFrom
  rw [Fast.te10274390034422433532, Fast.te14082659384304107361, Fast.te14289696077712309145, Fast.te4187177175401517315, Fast.te1435165496053646825, Fast.te14364793385576792824]
  kernel_rfl
 case hw => w_witness2
 k_fill
 refine' LW.walk (l := PySem.Challenge.rw_nearlands_k43_halves) rfl rfl ?tp_by_place ?hTs ?hq (fun w h Y => PySem.W.km_in_of Y) ?F
 case F =>
  intro w mg fa h KX G hmg
  refine' LW.all_mk KX G hmg ?a_check_count ?l_check_count ?c_check_count ?k_check_count ?a_check_spots ?l_check_spots ?c_check_spots ?k_check_spots ?a_by_place ?l_by_place ?c_by_place ?k_by_place ?a_halves ?l_halves ?c_halves ?k_halves ?a__law_feed ?l__law_feed ?c__law_feed ?k__law_feed ?a__law_draw ?l__law_draw ?c__law_draw ?k__law_draw ?a__law_great ?l__law_great ?c__law_great ?k__law_great ?a__law_scale ?l__law_scale ?c__law_scale ?k__law_scale ?a__law_spot ?l__law_spot ?c__law_spot ?k__law_spot ?a__law_dozen ?l__law_dozen ?c__law_dozen ?k__law_dozen ?a__law_spots ?l__law_spots ?c__law_spots ?k__law_spots ?a__law_world ?l__law_world ?c__law_world ?k__law_world ?a__law_told ?l__law_told ?c__law_told ?k__law_told ?a__law_right ?l__law_right ?c__law_right ?k__law_right ?a_law ?l_law ?c_law ?k_law ?z_ValueError ?z_any ?z_bool ?z_enumerate ?z_int ?z_isinstance ?z_len ?z_list ?z_max ?z_min ?z_range ?z_sorted ?z_super ?z_tuple ?a_MOST_SPOTS ?a_LandError ?a_NoBox ?a_NoLot ?a_TooMany ?a_NoSpot ?x1_NoLot ?x2_NoLot ?x3_NoLot ?x4_NoLot ?x5_NoLot ?x6_NoLot ?x7_NoLot ?x8_NoLot ?x9_NoLot ?x1_TooMany ?x2_TooMany ?x3_TooMany ?x4_TooMany ?x5_TooMany ?x6_TooMany ?x7_TooMany ?x8_TooMany ?x9_TooMany ?y1_ ?y2_ ?y3_ ?y4_ ?y5_ ?y6_ ?y7_ ?y8_ ?y9_ ?y10_ ?y11_ ?y12_ ?y14_ ?y15_ ?y16_ ?y17_ ?y18_ ?y19_ ?y20_ ?y21_ ?y22_ ?y23_ ?y24_ ?y25_ ?y26_ ?y27_ ?y28_ ?m_NoLot_NoLot ?m_TooMany_NoLot ?m_TooMany_TooMany ?m_NoSpot_NoLot ?m_NoSpot_TooMany ?m_NoSpot_NoSpot ?i_NoLot_ValueError ?i_TooMany_ValueError ?j_NoLot_NoSpot_TooMany_NoBox ?j_TooMany_NoSpot_NoLot_NoBox ?j_NoSpot_TooMany_NoLot_NoBox ?t0_by_place ?t1_by_place ?t2_by_place ?t3_by_place ?t4_by_place ?t5_by_place ?t6_by_place ?t7_by_place ?t8_by_place ?t9_by_place
  (case a_check_count => k_is)
  (case l_check_count => k_is)
  (case c_check_count => k_is)
  (case k_check_count => k_is)
  (case a_check_spots => k_is)
  (case l_check_spots => k_is)
  (case c_check_spots => k_is)
  (case k_check_spots => k_is)
  (case a_by_place => k_is)
  (case l_by_place => k_is)
  (case c_by_place => k_is)
  (case k_by_place => k_is)
  (case a_halves => k_is)
  (case l_halves => k_is)
  (case c_halves => k_is)
  (case k_halves => k_is)
  (case a__law_feed => k_is)
  (case l__law_feed => k_is)
  (case c__law_feed => k_is)
  (case k__law_feed => k_is)
  (case a__law_draw => k_is)
  (case l__law_draw => k_is)
  (case c__law_draw => k_is)
  (case k__law_draw => k_is)
  (case a__law_great => k_is)
  (case l__law_great => k_is)
  (case c__law_great => k_is)
  (case k__law_great => k_is)
  (case a__law_scale => k_is)
  (case l__law_scale => k_is)
  (case c__law_scale => k_is)
  (case k__law_scale => k_is)
  (case a__law_spot => k_is)
  (case l__law_spot => k_is)
  (case c__law_spot => k_is)
  (case k__law_spot => k_is)
  (case a__law_dozen => k_is)
  (case l__law_dozen => k_is)
  (case c__law_dozen => k_is)
  (case k__law_dozen => k_is)
  (case a__law_spots => k_is)
  (case l__law_spots => k_is)
  (case c__law_spots => k_is)
  (case k__law_spots => k_is)
  (case a__law_world => k_is)
  (case l__law_world => k_is)
  (case c__law_world => k_is)
  (case k__law_world => k_is)
  (case a__law_told => k_is)
  (case l__law_told => k_is)
  (case c__law_told => k_is)
  (case k__law_told => k_is)
  (case a__law_right => k_is)
  (case l__law_right => k_is)
  (case c__law_right => k_is)
  (case k__law_right => k_is)
  (case a_law => k_is)
  (case l_law => k_is)
  (case c_law => k_is)
  (case k_law => k_is)
  (case z_ValueError => k_is)
  (case z_any => k_is)
  (case z_bool => k_is)
  (case z_enumerate => k_is)
  (case z_int => k_is)
  (case z_isinstance => k_is)
  (case z_len => k_is)
  (case z_list => k_is)
  (case z_max => k_is)
  (case z_min => k_is)
  (case z_range => k_is)
  (case z_sorted => k_is)
  (case z_super => k_is)
  (case z_tuple => k_is)
  (case a_MOST_SPOTS => k_is)
  (case a_LandError => k_is)
  (case a_NoBox => k_is)
  (case a_NoLot => k_is)
  (case a_TooMany => k_is)
  (case a_NoSpot => k_is)
  (case x1_NoLot => k_exc)
  (case x2_NoLot => k_is)
  (case x3_NoLot => k_is)
  (case x4_NoLot => k_is)
  (case x5_NoLot => k_is)
  (case x6_NoLot => k_is)
  (case x7_NoLot => k_is)
  (case x8_NoLot => k_is)
  (case x9_NoLot => k_is)
  (case x1_TooMany => k_exc)
  (case x2_TooMany => k_is)
  (case x3_TooMany => k_is)
  (case x4_TooMany => k_is)
  (case x5_TooMany => k_is)
  (case x6_TooMany => k_is)
  (case x7_TooMany => k_is)
  (case x8_TooMany => k_is)
  (case x9_TooMany => k_is)
  (case y1_ => k_is)
  (case y2_ => kernel_rfl)
  (case y3_ => kernel_rfl)
  (case y4_ => k_is)
  (case y5_ => kernel_rfl)
  (case y6_ => k_is)
  (case y7_ => k_is)
  (case y8_ => k_is)
  (case y9_ => k_is)
  (case y10_ => rfl)
  (case y11_ => kernel_rfl)
  (case y12_ => kernel_rfl)
  (case y14_ => k_is)
  (case y15_ => k_is)
  (case y16_ => k_is)
  (case y17_ => k_is)
  (case y18_ => k_is)
  (case y19_ => k_is)
  (case y20_ => k_is)
  (case y21_ => k_is)
  (case y22_ => k_is)
  (case y23_ => k_is)
  (case y24_ => k_is)
  (case y25_ => k_is)
  (case y26_ => k_is)
  (case y27_ => k_is)
  (case y28_ => k_is)
  (case m_NoLot_NoLot => kts_exm)
  (case m_TooMany_NoLot => kts_exm)
  (case m_TooMany_TooMany => kts_exm)
  (case m_NoSpot_NoLot => kts_exm)
  (case m_NoSpot_TooMany => kts_exm)
  (case m_NoSpot_NoSpot => kts_exm)
  (case i_NoLot_ValueError => kit_is)
  (case i_TooMany_ValueError => kit_is)
  (case j_NoLot_NoSpot_TooMany_NoBox => kit_is)
  (case j_TooMany_NoSpot_NoLot_NoBox => kit_is)
  (case j_NoSpot_TooMany_NoLot_NoBox => kit_is)
  (case t0_by_place => rfl)
  (case t1_by_place => k_is)
  (case t2_by_place => rfl)
  (case t3_by_place => rfl)
  (case t4_by_place => rfl)
  (case t5_by_place => rfl)
  (case t6_by_place => rfl)
  (case t7_by_place => rfl)
  (case t8_by_place => decide)
  (case t9_by_place => kernel_rfl)
 case hTs => simp
 case hq => kernel_rfl
