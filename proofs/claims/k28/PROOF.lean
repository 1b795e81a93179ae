import PyProof.Rows.All
import Wide.All
import OpenK.AllK
import Wide.FinOn
import Lean
import PyProof.EqAt
import PyProof.EqKinds
import PyProof.TupleCall
import PyProof.ExcArgsOwn
import PyProof.ExcAttrAll.ValueError
import KE.KTryMore
import PyProof.NsDelKeeps
import PyProof.ExcBaseAll.ValueError
import KE.RegKTryMore
import KE.RegKIsAll
import KE.KRevSl
import PyProof.ZipIter
import PyProof.ExcClass3
import PyProof.ExcInit
import KE.KSuper
import PyProof.DictIter
import KE.KDictIter
import KE.KDictList
import PyProof.EnumStmt
import PyProof.WalksEnum
import PyProof.EnumMake
import PyProof.Rows.EnumRows
import PyProof.Rows.InDataRows
import PyProof.SumWalk
import PyProof.Rows.SeqCalls
import PyProof.WalksMore
import PyProof.Rows.SetFrom
import PyProof.SetRoads
import PyProof.Rows.TupMore
import PyProof.Rows.SortWalk
import PySem.Challenge.RW_nearlands_k28_takes_refused
set_option Elab.async false
set_option linter.all false
set_option maxRecDepth 100000
namespace L2
open PySem PySem.Spec PyProof.Rows
noncomputable abbrev Key := Sum Int Str
noncomputable def keyIs : Key → Value → Bool
 | .inl k, v => Value.isInt k v
 | .inr x, v => Value.isStrOf x v
noncomputable def keyH (w : World) : Key → Int
 | .inl k => hashInt k
 | .inr x => hashStr w x
theorem keyIs_shape : ∀ {k : Key} {v : Value}, keyIs k v = true → (∃ i t, k = Sum.inl i ∧ v = Value.int i t) ∨ (∃ x t, k = Sum.inr x ∧ v = Value.str x t)
 | .inl i, v, h => by
  obtain ⟨t, e⟩ := Value.isInt_shape (k := i) (v := v) h
  exact .inl ⟨i, t, rfl, e⟩
 | .inr x, v, h => by
  obtain ⟨t, e⟩ := Value.isStrOf_shape (x := x) (v := v) h
  exact .inr ⟨x, t, rfl, e⟩
theorem keyIs_int (i : Int) (t : Tok) : keyIs (.inl i) (.int i t) = true := by simp [keyIs, Value.isInt]
theorem keyIs_str (x : Str) (t : Tok) : keyIs (.inr x) (.str x t) = true := by simp [keyIs, Value.isStrOf]
theorem key_ll (a b : Int) : decide ((Sum.inl a : Key) = Sum.inl b) = (a == b) := by
 by_cases e : a = b
 ·subst e; simp
 ·have h : ¬ (Sum.inl a : Key) = Sum.inl b := fun q => e (Sum.inl.inj q)
  rw [decide_eq_false h]
  exact (beq_eq_false_iff_ne.mpr e).symm
theorem key_rr (a b : Str) : decide ((Sum.inr a : Key) = Sum.inr b) = decide (a = b) := by
 by_cases e : a = b
 ·subst e; simp
 ·have h : ¬ (Sum.inr a : Key) = Sum.inr b := fun q => e (Sum.inr.inj q)
  rw [decide_eq_false h, decide_eq_false e]
theorem key_lr (a : Int) (b : Str) : decide ((Sum.inl a : Key) = Sum.inr b) = false := decide_eq_false (fun q => nomatch q)
theorem key_rl (a : Str) (b : Int) : decide ((Sum.inr a : Key) = Sum.inl b) = false := decide_eq_false (fun q => nomatch q)
noncomputable def mixKind (prog : Program) (w : World) : PySem.KeyKind prog w Key where
 is := keyIs
 hash := keyH w
 inj := fun v a b ha hb => by
  rcases keyIs_shape ha with ⟨i, t, rfl, rfl⟩ | ⟨x, t, rfl, rfl⟩
  ·rcases keyIs_shape hb with ⟨j, u, rfl, e⟩ | ⟨y, u, rfl, e⟩
   ·injection e with e1 _; rw [e1]
   ·exact nomatch e
  ·rcases keyIs_shape hb with ⟨j, u, rfl, e⟩ | ⟨y, u, rfl, e⟩
   ·exact nomatch e
   ·injection e with e1 _; rw [e1]
 byValue := fun k v h => by
  rcases keyIs_shape h with ⟨i, t, rfl, rfl⟩ | ⟨x, t, rfl, rfl⟩ <;> rfl
 pyHash := fun hv h => by
  rcases keyIs_shape hv with ⟨i, t, rfl, rfl⟩ | ⟨x, t, rfl, rfl⟩
  ·exact wpAny_pyHash_int h
  ·exact wpAny_pyHash_str h
 eqBool := fun hu hv h => by
  rcases keyIs_shape hu with ⟨i, t, rfl, rfl⟩ | ⟨x, t, rfl, rfl⟩
  ·rcases keyIs_shape hv with ⟨j, u, rfl, rfl⟩ | ⟨y, u, rfl, rfl⟩
   ·rw [key_ll] at h; exact wpAny_eqBool_int h
   ·rw [key_lr] at h; exact SeqAt.EqAt.int_str i t y u _ _ _ _ h
  ·rcases keyIs_shape hv with ⟨j, u, rfl, rfl⟩ | ⟨y, u, rfl, rfl⟩
   ·rw [key_rl] at h; exact SeqAt.EqAt.str_int x t j u _ _ _ _ h
   ·rw [key_rr] at h; exact wpAny_eqBool_str h
 «strs» := fun k x t v h => by
  rcases keyIs_shape h with ⟨i, u, rfl, e⟩ | ⟨y, u, rfl, e⟩
  ·exact nomatch e
  ·injection e with e1 _
   subst e1
   cases v <;> rfl
theorem mixKind_int (prog : Program) (w : World) (i : Int) (t : Tok) : (mixKind prog w).is (.inl i) (.int i t) = true := keyIs_int i t
theorem mixKind_str (prog : Program) (w : World) (x : Str) (t : Tok) : (mixKind prog w).is (.inr x) (.str x t) = true := keyIs_str x t
end L2
namespace L2
open PySem PySem.Spec PyProof.Rows
inductive V where
 | non | bl (b : Bool) | int (i : Int) | str (x : Str) | byt (b : Array UInt8) | flt (b : UInt64) | ref (a : Addr) | ty (n : String)
 deriving DecidableEq
noncomputable def RelV : V → Value → Prop
 | .non, u => u = Value.none
 | .bl b, u => u = Value.bool b
 | .int i, u => ∃ t, u = Value.int i t
 | .str x, u => ∃ t, u = Value.str x t
 | .byt b, u => ∃ t, u = Value.bytes b t
 | .flt b, u => ∃ t, u = Value.float b t
 | .ref a, u => u = Value.ref a
 | .ty n, u => u = Value.type n
noncomputable abbrev Vals : List V → List Value → Prop := Paired RelV
theorem Vals.length {xs : List V} {us : List Value} (r : Vals xs us) : xs.length = us.length := Paired.length r
theorem Vals.get : ∀ {xs : List V} {us : List Value} {i : Nat} {x : V}, Vals xs us → xs[i]? = some x → ∃ u, us[i]? = some u ∧ RelV x u
 | _, _, _, _, .nil, e => by simp at e
 | _, _, 0, _, .cons r _, e => by simp at e; subst e; exact ⟨_, rfl, r⟩
 | _, _, i + 1, x, .cons _ t, e => by
  obtain ⟨u, h1, h2⟩ := Vals.get (i := i) (x := x) t (by simpa using e)
  exact ⟨u, by simpa using h1, h2⟩
theorem Vals.set {x : V} {u : Value} (r : RelV x u) : ∀ {xs : List V} {us : List Value} (i : Nat), Vals xs us → Vals (xs.set i x) (us.set i u)
 | _, _, _, .nil => .nil
 | _, _, 0, .cons _ t => .cons r t
 | _, _, i + 1, .cons q t => .cons q (Vals.set r i t)
theorem Vals.append : ∀ {xs ys : List V} {us ws : List Value}, Vals xs us → Vals ys ws → Vals (xs ++ ys) (us ++ ws)
 | _, _, _, _, .nil, s => s
 | _, _, _, _, .cons r t, s => .cons r (Vals.append t s)
theorem Vals.take : ∀ {xs : List V} {us : List Value} (n : Nat), Vals xs us → Vals (xs.take n) (us.take n)
 | _, _, 0, _ => .nil
 | _, _, _ + 1, .nil => .nil
 | _, _, n + 1, .cons r t => .cons r (Vals.take n t)
theorem Vals.drop : ∀ {xs : List V} {us : List Value} (n : Nat), Vals xs us → Vals (xs.drop n) (us.drop n)
 | _, _, 0, r => r
 | _, _, _ + 1, .nil => .nil
 | _, _, n + 1, .cons _ t => Vals.drop n t
theorem Vals.none_of : ∀ {xs : List V} {us : List Value} {i : Nat}, Vals xs us → xs[i]? = none → us[i]? = none := fun {xs us i} r e => by
 have h1 := r.length
 have h2 : xs.length ≤ i := List.getElem?_eq_none_iff.mp e
 exact List.getElem?_eq_none_iff.mpr (by omega)
noncomputable def RelO : Option V → Option Value → Prop
 | some v, some u => RelV v u
 | none, none => True
 | _, _ => False
noncomputable def KV {κ : Type} : List (κ × V) → List (κ × Value) → Prop := Paired fun (p : κ × V) (q : κ × Value) => p.1 = q.1 ∧ RelV p.2 q.2
noncomputable def kV : Key → V
 | .inl i => .int i
 | .inr x => .str x
inductive HO where
 | lst (xs : List V)
 | tup (xs : List V)
 | dK (kvs : List (Key × V)) | dT (kvs : List (List Key × V))
 | set (S : Int → Bool) (n : Nat)
 | ins (C dx : Addr) (fs : List (Str × V))
 | own (x : Addr)
 | xd (fs : List (Str × V))
 | met (f x : Addr)
 | rng (lo hi : Int)
 | frz (o : Obj) (u : HO)
 | tbl (ps : Array Value)
 | ext (φ : Heap → Prop)
noncomputable abbrev Hp := Addr → Option HO
noncomputable def upd (H : Hp) (a : Addr) (o : HO) : Hp := fun b => if b = a then some o else H b
theorem upd_same {H : Hp} {a : Addr} {o : HO} : upd H a o a = some o := by unfold upd; rw [if_pos rfl]
theorem upd_ne {H : Hp} {a b : Addr} {o : HO} (h : b ≠ a) : upd H a o b = H b := by unfold upd; rw [if_neg h]
theorem ne_of {H : Hp} {a b : Addr} {o u : HO} (h : H a = some o) (h' : H b = some u) (d : o ≠ u) : a ≠ b := by
 intro e; subst e; rw [h] at h'; exact d (Option.some.inj h')
theorem ne_of_none {H : Hp} {a b : Addr} {o : HO} (h : H a = some o) (h' : H b = none) : a ≠ b := by
 intro e; subst e; rw [h] at h'; cases h'
section
variable (P : Program) (w : World)
noncomputable def ObjOk (H : Hp) (h : Heap) (a : Addr) : HO → Prop
 | .lst xs => xs.length ≤ sizeLine ∧ ∃ (its : List Value) (n : Nat), Vals xs its ∧ h.get? a = some { cls := .type "list", data := .seq its.toArray n }
 | .tup xs => xs.length ≤ sizeLine ∧ ∃ its : List Value, Vals xs its ∧ IsTup h a its.toArray
 | .dK kvs => kvs.length ≤ sizeLine ∧ (a == sysModules) = false ∧ ∃ vs, KV kvs vs ∧ h.DictOf (mixKind P w) a vs
 | .dT kvs => kvs.length ≤ sizeLine ∧ (a == sysModules) = false ∧ ∃ xs : List (List Key × Addr × Value),
   Paired (fun (p : List Key × V) (q : List Key × Addr × Value) => p.1 = q.1 ∧ H q.2.1 = some (.tup (p.1.map kV)) ∧ RelV p.2 q.2.2) kvs xs ∧
   ∃ o es ep, h.get? a = some o ∧ o.ExactDict ∧ o.data = .dict es ep ∧ es.toList = xs.map (entryOfKey (tupleKind (mixKind P w))) ∧ (xs.map (·.1)).Nodup
 | .set S n => h.SetOf (intKind P w) a S n
 | .ins C dx fs => H dx = some (.own a) ∧ fs.length ≤ 1000 ∧ dx ≠ a ∧ h.get? a = some (PySem.W.instObj C dx) ∧
   ∃ mA, h.Ns1 dx mA ∧ (∀ f, RelO (fs.lookup f) (mA f)) ∧ PySem.Within mA (fs.map (·.1))
 | .own _ => ∃ o, h.get? a = some o
 | .xd fs => ∃ mA, h.Ns1 a mA ∧ ∀ f, RelO (fs.lookup f) (mA f)
 | .rng lo hi => ∃ t u v, h.get? a = some { cls := .type "range", data := .fields #[.int lo t, .int hi u, .int 1 v] }
 | .frz o u => h.get? a = some o ∧ ObjOk H h a u
 | .tbl ps => h.get? a = some { cls := .none, data := .fields ps }
 | .met f x => h.get? a = some (PySem.W.methodObj (.ref f) (.ref x))
 | .ext φ => φ h ∧ (∃ o, h.get? a = some o) ∧ ∀ h1 h2 : Heap, φ h1 → (∀ o, h1.get? a = some o → h2.get? a = some o) → φ h2
noncomputable def HOk (H : Hp) (h : Heap) : Prop := ∀ a o, H a = some o → ObjOk P w H h a o
end
section
variable {P : Program} {w : World} {H H' : Hp} {h h' : Heap} {a : Addr} {o : HO}
theorem ObjOk.lt (x : ObjOk P w H h a o) : a < h.objs.size := by
 cases o with
 | lst xs => obtain ⟨_, _, _, _, e⟩ := x; exact Heap.lt_size e
 | tup xs => obtain ⟨_, _, _, p⟩ := x; exact p.lt
 | dK kvs => obtain ⟨_, _, _, _, o, _, _, e, _⟩ := x; exact Heap.lt_size e
 | dT kvs => obtain ⟨_, _, _, _, o, _, _, e, _⟩ := x; exact Heap.lt_size e
 | set S n => obtain ⟨o, _, _, _, e, _⟩ := x; exact Heap.lt_size e
 | ins C dx fs => obtain ⟨_, _, _, e, _⟩ := x; exact Heap.lt_size e
 | own y => obtain ⟨_, e⟩ := x; exact Heap.lt_size e
 | xd fs => obtain ⟨_, ⟨_, _, _, e, _⟩, _⟩ := x; exact Heap.lt_size e
 | rng lo hi => obtain ⟨_, _, _, e⟩ := x; exact Heap.lt_size e
 | frz ob u => obtain ⟨e, _⟩ := x; exact Heap.lt_size e
 | tbl ps => exact Heap.lt_size (show h.get? a = some _ from x)
 | met f y => exact Heap.lt_size (show h.get? a = some _ from x)
 | ext φ => obtain ⟨_, ⟨_, e⟩, _⟩ := x; exact Heap.lt_size e
theorem Paired.mapP {α β : Type} {F G : α → β → Prop} : ∀ {l₁ : List α} {l₂ : List β}, Paired F l₁ l₂ → (∀ a b, F a b → G a b) → Paired G l₁ l₂
 | _, _, .nil, _ => .nil
 | _, _, .cons r t, f => .cons (f _ _ r) (Paired.mapP t f)
theorem ObjOk.stay (x : ObjOk P w H h a o) (k : ∀ b u, (b = a ∨ H b = some (.own a)) → h.get? b = some u → h'.get? b = some u)
  (ho : ∀ b, H b = some (.own a) → H' b = some (.own a)) (ht : ∀ b xs, H b = some (.tup xs) → H' b = some (.tup xs)) : ObjOk P w H' h' a o := by
 induction o with
 | lst xs => obtain ⟨z, its, n, r, e⟩ := x; exact ⟨z, its, n, r, k _ _ (.inl rfl) e⟩
 | tup xs => obtain ⟨z, its, r, ob, e, c⟩ := x; exact ⟨z, its, r, ob, k _ _ (.inl rfl) e, c⟩
 | dK kvs => obtain ⟨z, y, vs, r, ob, es, ep, e, c⟩ := x; exact ⟨z, y, vs, r, ob, es, ep, k _ _ (.inl rfl) e, c⟩
 | dT kvs =>
  obtain ⟨z, y, xs, r, ob, es, ep, e, c⟩ := x
  exact ⟨z, y, xs, Paired.mapP r fun p q z => ⟨z.1, ht _ _ z.2.1, z.2.2⟩, ob, es, ep, k _ _ (.inl rfl) e, c⟩
 | set S n => obtain ⟨ob, es, ep, t, e, c⟩ := x; exact ⟨ob, es, ep, t, k _ _ (.inl rfl) e, c⟩
 | ins C dx fs =>
  obtain ⟨d, z, ne, e, mA, ⟨od, es, ep, e2, c⟩, r⟩ := x
  exact ⟨ho _ d, z, ne, k _ _ (.inl rfl) e, mA, ⟨od, es, ep, k _ _ (.inr d) e2, c⟩, r⟩
 | own y => obtain ⟨ob, e⟩ := x; exact ⟨ob, k _ _ (.inl rfl) e⟩
 | xd fs => obtain ⟨mA, ⟨od, es, ep, e, c⟩, r⟩ := x; exact ⟨mA, ⟨od, es, ep, k _ _ (.inl rfl) e, c⟩, r⟩
 | rng lo hi => obtain ⟨t, u, v, e⟩ := x; exact ⟨t, u, v, k _ _ (.inl rfl) e⟩
 | frz ob u ih => obtain ⟨e, q⟩ := x; exact ⟨k _ _ (.inl rfl) e, ih q⟩
 | tbl ps =>
  have e : h.get? a = some { cls := .none, data := .fields ps } := x
  show h'.get? a = some { cls := .none, data := .fields ps }
  exact k a _ (.inl rfl) e
 | met f y =>
  have e : h.get? a = some (PySem.W.methodObj (.ref f) (.ref y)) := x
  show h'.get? a = some (PySem.W.methodObj (.ref f) (.ref y))
  exact k a _ (.inl rfl) e
 | ext φ => obtain ⟨p, ⟨o, e⟩, st⟩ := x; exact ⟨st _ _ p fun o q => k _ _ (.inl rfl) q, ⟨o, k _ _ (.inl rfl) e⟩, st⟩
theorem HOk.lt (x : HOk P w H h) (e : H a = some o) : a < h.objs.size := (x a o e).lt
theorem HOk.fresh (x : HOk P w H h) (e : h.objs.size ≤ a) : H a = none := by
 cases q : H a with
 | none => rfl
 | some u => exact absurd (Nat.lt_of_lt_of_le (x.lt q) e) (Nat.lt_irrefl _)
theorem HOk.kept (x : HOk P w H h) (k : ∀ b u, h.get? b = some u → h'.get? b = some u) : HOk P w H h' := fun a o e =>
 (x a o e).stay (fun b u _ q => k b u q) (fun _ q => q) fun _ _ q => q
theorem HOk.laid (x : HOk P w H h) (k : ∀ b u, h.get? b = some u → h'.get? b = some u) (hp : h.objs.size ≤ a) (new : ObjOk P w (upd H a o) h' a o) : HOk P w (upd H a o) h' := fun b u e => by
 have hn := x.fresh hp
 by_cases hb : b = a
 ·subst hb; rw [upd_same] at e; cases e; exact new
 ·rw [upd_ne hb] at e
  exact (x b u e).stay (fun c v _ q => k c v q) (fun c q => by rw [upd_ne (ne_of_none q hn)]; exact q) fun c xs q => by rw [upd_ne (ne_of_none q hn)]; exact q
end
noncomputable def Rd (H : Hp) (a : Addr) (u : HO) : Prop := H a = some u ∨ ∃ o, H a = some (.frz o u)
theorem Rd.of {H : Hp} {a : Addr} {u : HO} (h : H a = some u) : Rd H a u := .inl h
theorem Rd.ok {P : Program} {w : World} {H : Hp} {h : Heap} {a : Addr} {u : HO} (r : Rd H a u) (x : HOk P w H h) : ObjOk P w H h a u := by
 rcases r with r | ⟨o, r⟩
 ·exact x a u r
 ·obtain ⟨_, q⟩ := x a _ r
  exact q
noncomputable def Mut : Option HO → Prop
 | some (.lst _) => True
 | some (.dK _) => True
 | some (.dT _) => True
 | some (.set _ _) => True
 | some (.ins _ _ _) => True
 | some (.ext _) => True
 | _ => False
section
variable {P : Program} {w : World} {H : Hp} {h h' : Heap} {x e : Addr} {o' : HO}
theorem HOk.write (ok : HOk P w H h) (mu : Mut (H x)) (he : e = x ∨ H e = some (.own x)) (k : ∀ b u, b ≠ e → h.get? b = some u → h'.get? b = some u) (heo : ∃ u, h'.get? e = some u)
  (new : ObjOk P w (upd H x o') h' x o') : HOk P w (upd H x o') h' := fun b u q => by
 have nown : ∀ c y, H c = some (.own y) → c ≠ x := fun c y r z => by subst z; rw [r] at mu; exact mu
 have ntup : ∀ c xs, H c = some (.tup xs) → c ≠ x := fun c xs r z => by subst z; rw [r] at mu; exact mu
 by_cases hb : b = x
 ·subst hb; rw [upd_same] at q; cases q; exact new
 ·rw [upd_ne hb] at q
  by_cases hbe : b = e
  ·have q' : H b = some (.own x) := by
    rcases he with z | z
    ·exact absurd (hbe.trans z) hb
    ·rw [hbe]; exact z
   rw [q] at q'; cases q'
   obtain ⟨v, hv⟩ := heo
   exact ⟨v, by rw [hbe]; exact hv⟩
  ·refine (ok b u q).stay (fun c v hc r => k c v ?_ r) (fun c r => by rw [upd_ne (nown c b r)]; exact r) fun c xs r => by rw [upd_ne (ntup c xs r)]; exact r
   rcases hc with rfl | hc
   ·exact hbe
   ·rintro rfl
    rcases he with z | z
    ·exact nown c b hc z
    ·rw [hc] at z; cases z; exact hb rfl
end
structure Un (fs ex : List Addr) (H H' : Hp) (h h' : Heap) : Prop where
 keep : ∀ b o, h.get? b = some o → H b = none → b ∉ fs → b ∉ ex → h'.get? b = some o
 slot : ∀ b o, h.get? b = some o → H b = none → b ∈ fs → b ∉ ex → ∃ sl, h'.get? b = some { o with slots := sl }
 free : ∀ b o, h.get? b = some o → H b = none → b ∉ ex → H' b = none
 there : ∀ b o, h.get? b = some o → b ∉ ex → ∃ o', h'.get? b = some o'
 tups : ∀ b xs, H b = some (.tup xs) → H' b = some (.tup xs)
 frzs : ∀ b o u, H b = some (.frz o u) → H' b = some (.frz o u)
 tbls : ∀ b ps, H b = some (.tbl ps) → ∃ more, H' b = some (.tbl (ps ++ more))
section
variable {fs fs' ex ex' : List Addr} {H H1 H2 : Hp} {h h1 h2 h' : Heap} {a x e : Addr} {o : HO}
theorem Un.any (u : Un fs ex H H1 h h1) {b : Addr} {ob : Obj} (q : h.get? b = some ob) (n : H b = none) (hx : b ∉ ex) : ∃ sl, h1.get? b = some { ob with slots := sl } := by
 by_cases hb : b ∈ fs
 ·exact u.slot b ob q n hb hx
 ·exact ⟨ob.slots, u.keep b ob q n hb hx⟩
theorem Un.trans (a : Un fs ex H H1 h h1) (b : Un fs ex H1 H2 h1 h2) : Un fs ex H H2 h h2 where
 keep := fun c ob q n hc hx => b.keep c ob (a.keep c ob q n hc hx) (a.free c ob q n hx) hc hx
 slot := fun c ob q n hc hx => by
  obtain ⟨sl, e1⟩ := a.slot c ob q n hc hx
  obtain ⟨sl', e2⟩ := b.slot c _ e1 (a.free c ob q n hx) hc hx
  exact ⟨sl', e2⟩
 free := fun c ob q n hx => by
  obtain ⟨o', e1⟩ := a.there c ob q hx
  exact b.free c o' e1 (a.free c ob q n hx) hx
 there := fun c ob q hx => by
  obtain ⟨o', e1⟩ := a.there c ob q hx
  exact b.there c o' e1 hx
 tups := fun c xs q => b.tups c xs (a.tups c xs q)
 frzs := fun c ob xs q => b.frzs c ob xs (a.frzs c ob xs q)
 tbls := fun c ps q => by
  obtain ⟨m1, e1⟩ := a.tbls c ps q
  obtain ⟨m2, e2⟩ := b.tbls c _ e1
  exact ⟨m1 ++ m2, by rw [e2, Array.append_assoc]⟩
theorem Un.kept (k : ∀ b u, h.get? b = some u → h'.get? b = some u) : Un fs ex H H h h' :=
 ⟨fun b ob q _ _ _ => k b ob q, fun b ob q _ _ _ => ⟨ob.slots, k b ob q⟩, fun _ _ _ n _ => n, fun b ob q _ => ⟨ob, k b ob q⟩, fun _ _ q => q, fun _ _ _ q => q, fun _ ps q => ⟨#[], by rw [q]; simp⟩⟩
theorem Un.refl : Un fs ex H H h h := Un.kept fun _ _ q => q
theorem Un.laid (k : ∀ b u, h.get? b = some u → h'.get? b = some u) (hp : h.objs.size ≤ a) (hn : H a = none) : Un fs ex H (upd H a o) h h' where
 keep := fun b u q _ _ _ => k b u q
 slot := fun b u q _ _ _ => ⟨u.slots, k b u q⟩
 free := fun b u q n _ => by rw [upd_ne (Nat.ne_of_lt (Nat.lt_of_lt_of_le (Heap.lt_size q) hp))]; exact n
 there := fun b u q _ => ⟨u, k b u q⟩
 tups := fun b xs q => by rw [upd_ne (ne_of_none q hn)]; exact q
 frzs := fun b u xs q => by rw [upd_ne (ne_of_none q hn)]; exact q
 tbls := fun b ps q => ⟨#[], by rw [upd_ne (ne_of_none q hn), q]; simp⟩
theorem Un.write (mu : Mut (H x)) (he : e = x ∨ H e = some (.own x)) (k : ∀ b u, b ≠ e → h.get? b = some u → h'.get? b = some u) (heo : ∃ u, h'.get? e = some u) : Un fs ex H (upd H x o) h h' := by
 have hx : ∀ b, H b = none → b ≠ x := fun b n z => by subst z; rw [n] at mu; exact mu
 have hb : ∀ b, H b = none → b ≠ e := fun b n z => by
  subst z
  rcases he with r | r
  ·exact hx b n r
  ·rw [n] at r; cases r
 have hm : ∀ b u, H b = some u → ¬ Mut (some u) → b ≠ x := fun b u q nm z => by subst z; rw [q] at mu; exact nm mu
 refine ⟨fun b u q n _ _ => k b u (hb b n) q, fun b u q n _ _ => ⟨u.slots, k b u (hb b n) q⟩, fun b u q n _ => by rw [upd_ne (hx b n)]; exact n, fun b u q _ => ?_,
  fun b xs q => by rw [upd_ne (hm b _ q fun z => z)]; exact q, fun b u xs q => by rw [upd_ne (hm b _ q fun z => z)]; exact q, fun b ps q => ⟨#[], by rw [upd_ne (hm b _ q fun z => z), q]; simp⟩⟩
 by_cases hbe : b = e
 ·subst hbe; exact heo
 ·exact ⟨u, k b u hbe q⟩
theorem Un.mono (u : Un fs ex H H1 h h1) (hs : ∀ b ∈ fs, b ∈ fs') (hx : ∀ b ∈ ex, b ∈ ex') : Un fs' ex' H H1 h h1 :=
 ⟨fun b ob q n hb he => u.keep b ob q n (fun z => hb (hs b z)) fun z => he (hx b z), fun _ _ q n _ he => u.any q n fun z => he (hx _ z), fun b ob q n he => u.free b ob q n fun z => he (hx b z), fun b ob q he => u.there b ob q fun z => he (hx b z), u.tups, u.frzs, u.tbls⟩
end
noncomputable def trk (h : Heap) (H : Hp) : List Addr := (List.range h.objs.size).filter fun a => (H a).isSome
noncomputable def hidT (h : Heap) (H : Hp) : Heap := PySem.W.hideAll h (trk h H)
theorem hidT_size (h : Heap) (H : Hp) : (hidT h H).objs.size = h.objs.size := PySem.W.hideAll_size _ _
theorem hidT_get {h : Heap} {H : Hp} {b : Addr} {o : Obj} (e : h.get? b = some o) (n : H b = none) : (hidT h H).get? b = some o :=
 PySem.W.hideAll_get _ e fun hm => by
  have q : (H b).isSome = true := (List.mem_filter.mp hm).2
  rw [n] at q; simp at q
theorem of_hidT {h : Heap} {H : Hp} {b : Addr} {o : Obj} (e : (hidT h H).get? b = some o) : h.get? b = some o ∧ H b = none := by
 have e' : h.get? b = some o := PySem.W.of_hideAll (trk h H) e
 refine ⟨e', ?_⟩
 cases q : H b with
 | none => rfl
 | some x =>
  have hm : b ∈ trk h H := List.mem_filter.mpr ⟨List.mem_range.mpr (Heap.lt_size e'), by simp [q]⟩
  have z : (hidT h H).get? b = none := PySem.W.hideAll_none (trk h H) hm
  rw [z] at e; cases e
noncomputable def allNews (g h : Heap) (L : Addr) : List (Addr × Obj) := (List.range h.objs.size).filterMap fun a => if a = L ∨ (g.get? a).isSome = true then none else (h.get? a).map fun o => (a, o)
noncomputable def rest (g h : Heap) (L d : Addr) : List (Addr × Obj) := (allNews g h L).filter fun p => decide (p.1 ≠ d)
end L2
namespace L2
open PySem PySem.Spec PyProof.Rows
structure Mod (K : PySem.W.Frag) (mg : Str → Option Value) (base : Heap) : Prop where
 kin : K.In base
 glob : base.Ns mainGlobals mg
 blt : ∃ mb, base.Ns builtinsNs mb ∧ ∀ x : Str, x ≠ "__name__" → mb x = bootBuiltins x
 nolimit : base.NoLimit
structure Cx where
 prog : Program
 w : World
 K : PySem.W.Frag
 mg : Str → Option Value
 base : Heap
 A : Around
 N : List Str
 s₀ : Shared
 H₀ : Hp
 env : Env
 outer : List Env
 stack : List Env
 ex : List Addr
 fn : Str → Bool
 calm : Bool
 pn : List (Addr × Obj)
 xe : Value → Shared → Prop
noncomputable def frs (l : List Env) : List Addr := l.filterMap (·.frame)
noncomputable abbrev Cx.fs (X : Cx) : List Addr := frs X.outer
noncomputable def Vis (sc : Scope) (x : Str) : Prop := sc.names.lookup x = some .local ∨ sc.names.lookup x = some .cell ∨ sc.names.lookup x = some .free
noncomputable def Loc (sc : Scope) (x : Str) : Prop := sc.names.lookup x = some .local ∨ sc.names.lookup x = some .cell
noncomputable def Look (env : Env) (h : Heap) (m : Str → Option Value) (x : Str) (u : Value) : Prop :=
 (env.kindOf x = some .local ∧ m x = some u) ∨ ((env.kindOf x = some .cell ∨ env.kindOf x = some .free) ∧ ∃ c, env.cells.lookup x = some c ∧ h.IsCell c (some u))
structure Cx.Ok (X : Cx) : Prop where
 mod : Mod X.K X.mg X.base
 kind : X.env.scope.kind = .function
 glob : X.env.globals = mainGlobals
 blt : X.env.builtins = builtinsNs
 above : X.s₀.heap.objs.size ≤ X.env.locals
 inj : ∀ x y c, X.env.cells.lookup x = some c → X.env.cells.lookup y = some c → x = y
 has : ∀ x, (X.env.kindOf x = some .cell ∨ X.env.kindOf x = some .free) → ∃ c, X.env.cells.lookup x = some c
 cab : ∀ x c, X.fn x = true → X.env.cells.lookup x = some c → X.s₀.heap.objs.size ≤ c
 hd : X.calm = true → X.A.handled = none
 frames : X.A.frames = some X.stack
 stk : X.stack = X.outer ∨ (X.stack = X.env :: X.outer ∧ X.env.frame = some X.env.locals)
 exf : ∀ b ∈ X.ex, b ≠ X.env.locals ∧ ∀ x c, X.env.cells.lookup x = some c → c ≠ b
 bs : ∀ b o, X.base.get? b = some o → X.s₀.heap.get? b = some o ∧ X.H₀ b = none
 bsz : X.base.objs.size ≤ X.s₀.heap.objs.size
 noex : ∀ b o, X.base.get? b = some o → b ∉ X.ex
 exfs : ∀ b ∈ X.ex, b ∉ X.fs
 funs : X.s₀.heap.FunFrames X.base X.outer
 frf : ∀ b ∈ X.fs, X.H₀ b = none
structure Inv (X : Cx) (pins : List (Addr × Obj)) (σ : List (Option V)) (H : Hp) (s : Shared) : Prop where
 ok : X.Ok
 os : s.os = X.s₀.os
 bare : AllBare s.gens
 base : Un X.fs X.ex X.H₀ H X.s₀.heap s.heap
 loc : ∃ m, s.heap.Ns X.env.locals m ∧ ∀ (i : Nat) (x : Str) (v : V), X.N[i]? = some x → σ[i]? = some (some v) → Vis X.env.scope x → ∃ u, RelV v u ∧ Look X.env s.heap m x u
 cell : ∀ x c, X.env.cells.lookup x = some c → ∃ v, s.heap.IsCell c v
 free : H X.env.locals = none
 freeC : ∀ x c, X.env.cells.lookup x = some c → H c = none
 pin : ∀ p ∈ X.pn ++ pins, s.heap.get? p.1 = some p.2 ∧ H p.1 = none ∧ p.1 ≠ X.env.locals ∧ p.1 ∉ X.fs ∧ ∀ v, p.2.data ≠ .cell v
 hok : HOk X.prog X.w H s.heap
 len : σ.length = X.N.length
section
variable {X : Cx} {pins : List (Addr × Obj)} {σ : List (Option V)} {H H' : Hp} {s : Shared} {h' : Heap}
theorem Cx.Ok.nofr (ok : X.Ok) {b : Addr} {o : Obj} (e : X.base.get? b = some o) : b ∉ X.fs := fun hb => by
 have := (ok.funs.mem hb).1
 rw [e] at this; cases this
theorem Inv.bs (I : Inv X pins σ H s) : ∀ b o, X.base.get? b = some o → s.heap.get? b = some o ∧ H b = none := fun b o e =>
 ⟨I.base.keep b o (I.ok.bs b o e).1 (I.ok.bs b o e).2 (I.ok.nofr e) (I.ok.noex b o e), I.base.free b o (I.ok.bs b o e).1 (I.ok.bs b o e).2 (I.ok.noex b o e)⟩
theorem Inv.bk (I : Inv X pins σ H s) : ∀ b o, X.base.get? b = some o → s.heap.get? b = some o := fun b o e => (I.bs b o e).1
theorem Inv.mod (I : Inv X pins σ H s) : Mod X.K X.mg X.base := I.ok.mod
theorem Inv.kIn (I : Inv X pins σ H s) : X.K.In s.heap := I.ok.mod.kin.keeps I.bk
theorem Inv.nolimit (I : Inv X pins σ H s) : s.heap.NoLimit := I.ok.mod.nolimit.keeps I.bk
theorem Inv.fr (I : Inv X pins σ H s) : ∃ m, Fr X.base X.env.locals s.heap m :=
 let ⟨m, hn, _⟩ := I.loc
 ⟨m, hn, I.bk, Nat.le_trans I.ok.bsz I.ok.above⟩
theorem Inv.lt (I : Inv X pins σ H s) : X.env.locals < s.heap.objs.size := let ⟨_, hn, _⟩ := I.loc; hn.lt
theorem Inv.sz (I : Inv X pins σ H s) : X.s₀.heap.objs.size ≤ s.heap.objs.size := Nat.le_trans I.ok.above (Nat.le_of_lt I.lt)
theorem Inv.nofs (I : Inv X pins σ H s) {a : Addr} (h : s.heap.objs.size ≤ a) : a ∉ X.fs := fun hb => by
 obtain ⟨_, o, ho, _⟩ := I.ok.funs.mem hb
 exact absurd (Nat.lt_of_lt_of_le (Heap.lt_size ho) (Nat.le_trans I.sz h)) (Nat.lt_irrefl _)
theorem Inv.cne (I : Inv X pins σ H s) : ∀ x c, X.env.cells.lookup x = some c → c ≠ X.env.locals := fun x c e z => by
 obtain ⟨v, o, ho, hd⟩ := I.cell x c e
 obtain ⟨m, ⟨o', es, ep, ho', hd', _⟩, _⟩ := I.loc
 rw [z, ho'] at ho; cases ho; rw [hd'] at hd; cases hd
theorem Inv.funs (I : Inv X pins σ H s) : s.heap.FunFrames X.base X.outer := by
 have all : ∀ (l : List Env), (∀ b ∈ frs l, b ∈ X.fs) → X.s₀.heap.FunFrames X.base l → s.heap.FunFrames X.base l := by
  intro l
  induction l with
  | nil => intro _ _; trivial
  | cons env r ih =>
   intro hs hl
   obtain ⟨hk, ⟨L, o, hf, hn, ho, hd⟩, hr⟩ := hl
   have hL : L ∈ X.fs := hs L (by unfold frs; rw [List.filterMap_cons, hf]; exact List.mem_cons_self)
   obtain ⟨sl, e⟩ := I.base.slot L o ho (I.ok.frf L hL) hL fun z => I.ok.exfs L z hL
   exact ⟨hk, ⟨L, _, hf, hn, e, hd⟩, ih (fun b hb => hs b (by unfold frs; rw [List.filterMap_cons, hf]; exact List.mem_cons_of_mem _ hb)) hr⟩
 exact all X.outer (fun _ hb => hb) I.ok.funs
theorem Inv.stack (I : Inv X pins σ H s) : s.heap.FunFrames X.base X.stack := by
 rcases I.ok.stk with e | ⟨e, hf⟩
 ·rw [e]; exact I.funs
 ·rw [e]
  obtain ⟨m, hn, _⟩ := I.loc
  refine .cons (by rw [I.ok.kind]; decide) hf hn ?_ I.funs
  exact Heap.get?_none_of_le (Nat.le_trans I.ok.bsz I.ok.above)
theorem Inv.stkSub (I : Inv X pins σ H s) : ∀ b ∈ frs X.stack, b ∈ X.env.locals :: X.fs := fun b hb => by
 rcases I.ok.stk with e | ⟨e, hf⟩
 ·rw [e] at hb; exact List.mem_cons_of_mem _ hb
 ·rw [e] at hb
  unfold frs at hb
  rw [List.filterMap_cons, hf] at hb
  exact hb
theorem Inv.stkFree (I : Inv X pins σ H s) : ∀ b ∈ frs X.stack, H b = none := fun b hb => by
 rcases List.mem_cons.mp (I.stkSub b hb) with e | hb
 ·rw [e]; exact I.free
 ·obtain ⟨_, o, ho, _⟩ := I.ok.funs.mem hb
  exact I.base.free b o ho (I.ok.frf b hb) fun z => I.ok.exfs b z hb
theorem Inv.step {g' : Array GenState} {t' : Nat} {d' : Drawn} {ch : List Addr} (I : Inv X pins σ H s)
  (hch : ∀ b ∈ ch, (b ∈ X.ex ∨ X.s₀.heap.objs.size ≤ b) ∧ b ≠ X.env.locals ∧ (∀ x c, X.env.cells.lookup x = some c → c ≠ b) ∧ ∀ p ∈ X.pn ++ pins, p.1 ≠ b)
  (keep : ∀ b o, b ≠ X.env.locals → b ∉ X.fs → b ∉ ch → s.heap.get? b = some o → H b = none → h'.get? b = some o)
  (slot : ∀ b o, b ≠ X.env.locals → b ∈ X.fs → b ∉ ch → s.heap.get? b = some o → H b = none → ∃ sl, h'.get? b = some { o with slots := sl }) (free : ∀ b o, b ∉ ch → s.heap.get? b = some o → H b = none → H' b = none)
  (there : ∀ b o, b ∉ ch → s.heap.get? b = some o → ∃ o', h'.get? b = some o')
  (tups : ∀ b xs, H b = some (.tup xs) → H' b = some (.tup xs)) (frzs : ∀ b o u, H b = some (.frz o u) → H' b = some (.frz o u)) (tbls : ∀ b ps, H b = some (.tbl ps) → ∃ more, H' b = some (.tbl (ps ++ more)))
  (ns : ∀ m, s.heap.Ns X.env.locals m → h'.Ns X.env.locals m) (hok : HOk X.prog X.w H' h') (hg : AllBare g') :
  Inv X pins σ H' { s with heap := h', gens := g', drawn := d', toks := t' } := by
 have neL : ∀ b o, X.s₀.heap.get? b = some o → b ≠ X.env.locals := fun b o e => Nat.ne_of_lt (Nat.lt_of_lt_of_le (Heap.lt_size e) I.ok.above)
 have neC : ∀ b o, X.s₀.heap.get? b = some o → b ∉ X.ex → b ∉ ch := fun b o e hx hb => by
  rcases (hch b hb).1 with z | z
  ·exact hx z
  ·exact absurd (Nat.lt_of_lt_of_le (Heap.lt_size e) z) (Nat.lt_irrefl _)
 have cellK : ∀ x c, X.env.cells.lookup x = some c → ∀ v, s.heap.IsCell c v → h'.IsCell c v := fun x c e v ⟨o, ho, hd⟩ => by
  have nch : c ∉ ch := fun z => (hch c z).2.2.1 x c e rfl
  by_cases hc : c ∈ X.fs
  ·obtain ⟨sl, q⟩ := slot c o (I.cne x c e) hc nch ho (I.freeC x c e)
   exact ⟨_, q, hd⟩
  ·exact ⟨o, keep c o (I.cne x c e) hc nch ho (I.freeC x c e), hd⟩
 refine ⟨I.ok, I.os, hg, ⟨fun b o e n hb hx => ?_, fun b o e n hb hx => ?_, fun b o e n hx => ?_, fun b o e hx => ?_, fun b xs e => tups b xs (I.base.tups b xs e), fun b o xs e => frzs b o xs (I.base.frzs b o xs e), fun b ps e => ?_⟩, ?_, fun x c e => ?_, ?_, fun x c e => ?_, fun p hp => ?_, hok, I.len⟩
 ·exact keep b o (neL b o e) hb (neC b o e hx) (I.base.keep b o e n hb hx) (I.base.free b o e n hx)
 ·obtain ⟨sl, e1⟩ := I.base.slot b o e n hb hx
  obtain ⟨sl', e2⟩ := slot b _ (neL b o e) hb (neC b o e hx) e1 (I.base.free b o e n hx)
  exact ⟨sl', e2⟩
 ·obtain ⟨o', e1⟩ := I.base.there b o e hx
  exact free b o' (neC b o e hx) e1 (I.base.free b o e n hx)
 ·obtain ⟨o', e1⟩ := I.base.there b o e hx
  exact there b o' (neC b o e hx) e1
 ·obtain ⟨m1, e1⟩ := I.base.tbls b ps e
  obtain ⟨m2, e2⟩ := tbls b _ e1
  exact ⟨m1 ++ m2, by rw [e2, Array.append_assoc]⟩
 ·obtain ⟨m, hn, hl⟩ := I.loc
  refine ⟨m, ns m hn, fun i x v e1 e2 e3 => ?_⟩
  obtain ⟨u, r, l⟩ := hl i x v e1 e2 e3
  refine ⟨u, r, ?_⟩
  rcases l with l | ⟨k, c, e, z⟩
  ·exact .inl l
  ·exact .inr ⟨k, c, e, cellK x c e _ z⟩
 ·obtain ⟨v, z⟩ := I.cell x c e
  exact ⟨v, cellK x c e v z⟩
 ·obtain ⟨m, ⟨o, _, _, ho, _⟩, _⟩ := I.loc
  exact free _ o (fun z => (hch _ z).2.1 rfl) ho I.free
 ·obtain ⟨v, o, ho, hd⟩ := I.cell x c e
  exact free c o (fun z => (hch c z).2.2.1 x c e rfl) ho (I.freeC x c e)
 ·obtain ⟨e, n, ne, nf, d⟩ := I.pin p hp
  have nch : p.1 ∉ ch := fun z => (hch p.1 z).2.2.2 p hp rfl
  exact ⟨keep p.1 p.2 ne nf nch e n, free p.1 p.2 nch e n, ne, nf, d⟩
theorem Inv.un {t' : Nat} (I : Inv X pins σ H s) (u : Un X.fs [] H H' s.heap h') (hok : HOk X.prog X.w H' h') : Inv X pins σ H' { s with heap := h', toks := t' } := by
 obtain ⟨m, ⟨o, es, ep, ho, r⟩, _⟩ := id I.loc
 obtain ⟨sl, hL⟩ := u.any ho I.free (by simp)
 exact I.step (g' := s.gens) (d' := s.drawn) (ch := []) (fun _ z => nomatch z) (fun b o _ hb _ e n => u.keep b o e n hb (by simp)) (fun b o _ hb _ e n => u.slot b o e n hb (by simp)) (fun b o _ e n => u.free b o e n (by simp)) (fun b o _ e => u.there b o e (by simp)) u.tups u.frzs u.tbls (fun m' hm => by
  obtain ⟨o', es', ep', ho', r'⟩ := hm
  rw [ho] at ho'; cases ho'
  exact ⟨_, es', ep', hL, r'⟩) hok I.bare
theorem Inv.call {g' : Array GenState} {t' : Nat} {d' : Drawn} {ch : List Addr} (I : Inv X pins σ H s) (u : Un (frs X.stack) ch H H' s.heap h') (hok : HOk X.prog X.w H' h') (hg : AllBare g')
  (hch : ∀ b ∈ ch, (b ∈ X.ex ∨ X.s₀.heap.objs.size ≤ b) ∧ b ≠ X.env.locals ∧ (∀ x c, X.env.cells.lookup x = some c → c ≠ b) ∧ ∀ p ∈ X.pn ++ pins, p.1 ≠ b) :
  Inv X pins σ H' { s with heap := h', gens := g', drawn := d', toks := t' } := by
 obtain ⟨m, ⟨o, es, ep, ho, r⟩, _⟩ := id I.loc
 obtain ⟨sl, hL⟩ := u.any ho I.free fun z => (hch _ z).2.1 rfl
 exact I.step (ch := ch) hch (fun b o hL hb hc e n => u.keep b o e n (fun z => (List.mem_cons.mp (I.stkSub b z)).elim hL hb) hc) (fun b o _ _ hc e n => u.any e n hc) (fun b o hc e n => u.free b o e n hc) (fun b o hc e => u.there b o e hc) u.tups u.frzs u.tbls (fun m' hm => by
  obtain ⟨o', es', ep', ho', r'⟩ := hm
  rw [ho] at ho'; cases ho'
  exact ⟨_, es', ep', hL, r'⟩) hok hg
theorem Inv.turned {t' : Nat} {it : Addr} (I : Inv X pins σ H s) (k : ∀ b o, b ≠ it → s.heap.get? b = some o → h'.get? b = some o) (hn : H it = none) (hL : it ≠ X.env.locals)
  (h1 : it ∈ X.ex ∨ X.s₀.heap.objs.size ≤ it) (h2 : ∀ x c, X.env.cells.lookup x = some c → c ≠ it) (h3 : ∀ p ∈ X.pn ++ pins, p.1 ≠ it) : Inv X pins σ H { s with heap := h', toks := t' } := by
 have nit : ∀ b u, H b = some u → b ≠ it := fun b u e z => by rw [z, hn] at e; cases e
 refine I.step (g' := s.gens) (d' := s.drawn) (ch := [it]) (fun b hb => ?_) (fun b o _ _ hc e _ => k b o (fun z => hc (by simp [z])) e) (fun b o _ _ hc e _ => ⟨o.slots, k b o (fun z => hc (by simp [z])) e⟩) (fun _ _ _ _ n => n)
  (fun b o hc e => ⟨o, k b o (fun z => hc (by simp [z])) e⟩) (fun _ _ e => e) (fun _ _ _ e => e) (fun b ps e => ⟨#[], by rw [e]; simp⟩) (fun m hm => ?_) (fun b u e => ?_) I.bare
 ·have e : b = it := by simpa using hb
  subst e
  exact ⟨h1, hL, h2, h3⟩
 ·obtain ⟨o, es, ep, ho, r⟩ := hm
  exact ⟨o, es, ep, k _ o (Ne.symm hL) ho, r⟩
 ·refine (I.hok b u e).stay (fun c v hc q => k c v ?_ q) (fun _ q => q) fun _ _ q => q
  rcases hc with z | z
  ·rw [z]; exact nit b u e
  ·exact nit c _ z
theorem Inv.tok (I : Inv X pins σ H s) (t : Nat) : Inv X pins σ H { s with toks := t } := I.un (h' := s.heap) (t' := t) Un.refl I.hok
theorem Inv.kept {t' : Nat} (I : Inv X pins σ H s) (k : ∀ b u, s.heap.get? b = some u → h'.get? b = some u) : Inv X pins σ H { s with heap := h', toks := t' } := I.un (Un.kept k) (I.hok.kept k)
theorem Inv.laid {a : Addr} {o : HO} {t' : Nat} (I : Inv X pins σ H s) (k : ∀ b u, s.heap.get? b = some u → h'.get? b = some u) (hp : s.heap.objs.size ≤ a) (new : ObjOk X.prog X.w (upd H a o) h' a o) :
  Inv X pins σ (upd H a o) { s with heap := h', toks := t' } := I.un (Un.laid k hp (I.hok.fresh hp)) (I.hok.laid k hp new)
theorem Inv.write {x e : Addr} {o : HO} {t' : Nat} (I : Inv X pins σ H s) (mu : Mut (H x)) (he : e = x ∨ H e = some (.own x)) (k : ∀ b u, b ≠ e → s.heap.get? b = some u → h'.get? b = some u) (heo : ∃ u, h'.get? e = some u)
  (new : ObjOk X.prog X.w (upd H x o) h' x o) : Inv X pins σ (upd H x o) { s with heap := h', toks := t' } := I.un (Un.write mu he k heo) (I.hok.write mu he k heo new)
theorem Inv.weak {σ' : List (Option V)} (I : Inv X pins σ H s) (hl : σ'.length = σ.length) (w : ∀ (i : Nat) v, σ'[i]? = some (some v) → σ[i]? = some (some v)) : Inv X pins σ' H s :=
 ⟨I.ok, I.os, I.bare, I.base, let ⟨m, hn, hl'⟩ := I.loc; ⟨m, hn, fun i x v e1 e2 e3 => hl' i x v e1 (w i v e2) e3⟩, I.cell, I.free, I.freeC, I.pin, I.hok, hl.trans I.len⟩
theorem Inv.pins_of {pins' : List (Addr × Obj)} (I : Inv X pins σ H s) (h : ∀ p ∈ pins', s.heap.get? p.1 = some p.2 ∧ H p.1 = none ∧ p.1 ≠ X.env.locals ∧ p.1 ∉ X.fs ∧ ∀ v, p.2.data ≠ .cell v) : Inv X pins' σ H s :=
 ⟨I.ok, I.os, I.bare, I.base, I.loc, I.cell, I.free, I.freeC, fun p hp => (List.mem_append.mp hp).elim (fun z => I.pin p (List.mem_append_left _ z)) (h p), I.hok, I.len⟩
theorem nodup_ix {N : List Str} (hN : N.Nodup) {i j : Nat} {x : Str} (a : N[i]? = some x) (b : N[j]? = some x) : i = j := by
 obtain ⟨h1, e1⟩ := List.getElem?_eq_some_iff.mp a
 obtain ⟨h2, e2⟩ := List.getElem?_eq_some_iff.mp b
 exact (List.getElem_inj hN).mp (e1.trans e2.symm)
theorem store_ok2 {M : Model} {A : Around} {E : Value → Shared → Prop} {i : Nat} {x : Str} {v : V} {u : Value} {Q : Unit → Shared → Prop} (I : Inv X pins σ H s) (hN : X.N.Nodup) (hi : X.N[i]? = some x) (hx : Loc X.env.scope x) (r : RelV v u)
  (h : ∀ s', Inv X pins (σ.set i (some v)) H s' → (∃ a, Heap.SameBut a s.heap s'.heap ∧ (a = X.env.locals ∨ X.env.cells.lookup x = some a)) → Q () s') (hf : X.fn x = true ∨ X.env.scope.names.lookup x = some .local := by first | exact .inl rfl | exact .inr rfl | assumption) : wpAny M A (storeName X.env x u) Q E s := by
 obtain ⟨m, hn, hl⟩ := id I.loc
 have hcls : (X.env.scope.kind == .class || (X.env.scope.kind == .module && X.env.locals != X.env.globals)) = false := by rw [I.ok.kind]; rfl
 have hiσ : i < σ.length := by rw [I.len]; exact (List.getElem?_eq_some_iff.mp hi).1
 have cne := I.cne
 have tracked : ∀ {a : Addr} {h' : Heap}, (∃ o, s.heap.get? a = some o ∧ H a = none) → Heap.SameBut a s.heap h' → HOk X.prog X.w H h' := fun {a h'} ha hs b ob e => by
  obtain ⟨_, _, hfree⟩ := ha
  refine (I.hok b ob e).stay (fun c w' hc q => (hs.2 c ?_).trans q) (fun _ q => q) fun _ _ q => q
  rintro rfl
  rcases hc with rfl | hc
  ·rw [hfree] at e; cases e
  ·rw [hfree] at hc; cases hc
 rcases hx with hk | hk
 ·refine wpAny_storeName_local hk hn (fun h' hn' hs => ?_) hcls
  obtain ⟨oL, _, _, hoL, _⟩ := id hn
  refine h _ ⟨I.ok, I.os, I.bare, ⟨fun b o e n hb hx => ?_, fun b o e n hb hx => ?_, I.base.free, fun b o e hx => ?_, I.base.tups, I.base.frzs, I.base.tbls⟩, ⟨_, hn', fun j y v' e1 e2 e3 => ?_⟩, fun y c e => ?_, I.free, I.freeC, fun p hp => ?_, tracked ⟨oL, hoL, I.free⟩ hs, by simpa using I.len⟩ ⟨_, hs, .inl rfl⟩
  ·exact (hs.2 b (Nat.ne_of_lt (Nat.lt_of_lt_of_le (Heap.lt_size e) I.ok.above))).trans (I.base.keep b o e n hb hx)
  ·obtain ⟨sl, e1⟩ := I.base.slot b o e n hb hx
   exact ⟨sl, (hs.2 b (Nat.ne_of_lt (Nat.lt_of_lt_of_le (Heap.lt_size e) I.ok.above))).trans e1⟩
  ·obtain ⟨o', e1⟩ := I.base.there b o e hx
   exact ⟨o', (hs.2 b (Nat.ne_of_lt (Nat.lt_of_lt_of_le (Heap.lt_size e) I.ok.above))).trans e1⟩
  ·by_cases hj : j = i
   ·subst hj
    rw [hi] at e1; cases e1
    rw [List.getElem?_set_self hiσ] at e2
    cases e2
    exact ⟨u, r, .inl ⟨hk, by simp⟩⟩
   ·rw [List.getElem?_set_ne (Ne.symm hj)] at e2
    obtain ⟨u', r', q⟩ := hl j y v' e1 e2 e3
    refine ⟨u', r', ?_⟩
    rcases q with ⟨k, e⟩ | ⟨k, c, e, z⟩
    ·refine .inl ⟨k, ?_⟩
     have : y ≠ x := fun e => hj (nodup_ix hN e1 (e ▸ hi))
     simp [this, e]
    ·exact .inr ⟨k, c, e, z.sameBut hs (cne y c e)⟩
  ·obtain ⟨w', z⟩ := I.cell y c e
   exact ⟨w', z.sameBut hs (cne y c e)⟩
  ·obtain ⟨e, n, ne, nf, d⟩ := I.pin p hp
   exact ⟨(hs.2 p.1 ne).trans e, n, ne, nf, d⟩
 ·have hfn : X.fn x = true := by
   rcases hf with z | z
   ·exact z
   ·rw [z] at hk; cases hk
  obtain ⟨c, hc⟩ := I.ok.has x (.inl hk)
  obtain ⟨w', z⟩ := I.cell x c hc
  refine wpAny_storeName_cell I.ok.kind hk hc z (fun h' hc' hs => ?_)
  obtain ⟨oc, hoc, hocd⟩ := id z
  refine h { s with heap := h' } ⟨I.ok, I.os, I.bare, ⟨fun b o e n hb hx => ?_, fun b o e n hb hx => ?_, I.base.free, fun b o e hx => ?_, I.base.tups, I.base.frzs, I.base.tbls⟩, ⟨m, hn.sameBut hs (Ne.symm (cne x c hc)), fun j y v' e1 e2 e3 => ?_⟩, fun y c' e => ?_, I.free, I.freeC, fun p hp => ?_, tracked ⟨oc, hoc, I.freeC x c hc⟩ hs, by simpa using I.len⟩ ⟨c, hs, .inr hc⟩
  ·exact (hs.2 b (Nat.ne_of_lt (Nat.lt_of_lt_of_le (Heap.lt_size e) (I.ok.cab x c hfn hc)))).trans (I.base.keep b o e n hb hx)
  ·obtain ⟨sl, e1⟩ := I.base.slot b o e n hb hx
   exact ⟨sl, (hs.2 b (Nat.ne_of_lt (Nat.lt_of_lt_of_le (Heap.lt_size e) (I.ok.cab x c hfn hc)))).trans e1⟩
  ·obtain ⟨o', e1⟩ := I.base.there b o e hx
   exact ⟨o', (hs.2 b (Nat.ne_of_lt (Nat.lt_of_lt_of_le (Heap.lt_size e) (I.ok.cab x c hfn hc)))).trans e1⟩
  ·by_cases hj : j = i
   ·subst hj
    rw [hi] at e1; cases e1
    rw [List.getElem?_set_self hiσ] at e2
    cases e2
    exact ⟨u, r, .inr ⟨.inl hk, c, hc, hc'⟩⟩
   ·rw [List.getElem?_set_ne (Ne.symm hj)] at e2
    obtain ⟨u', r', q⟩ := hl j y v' e1 e2 e3
    refine ⟨u', r', ?_⟩
    rcases q with q | ⟨k, c', e, z'⟩
    ·exact .inl q
    ·refine .inr ⟨k, c', e, z'.sameBut hs ?_⟩
     rintro rfl
     exact hj (nodup_ix hN e1 (I.ok.inj _ _ _ e hc ▸ hi))
  ·by_cases hcc : c' = c
   ·subst hcc; exact ⟨_, hc'⟩
   ·obtain ⟨w2, z2⟩ := I.cell y c' e
    exact ⟨w2, z2.sameBut hs hcc⟩
  ·obtain ⟨e, n, ne, nf, d⟩ := I.pin p hp
   refine ⟨(hs.2 p.1 ?_).trans e, n, ne, nf, d⟩
   intro q
   rw [q, hoc] at e
   have q' : oc = p.2 := Option.some.inj e
   exact d w' (by rw [← q']; exact hocd)
theorem store_ok {M : Model} {A : Around} {E : Value → Shared → Prop} {i : Nat} {x : Str} {v : V} {u : Value} {Q : Unit → Shared → Prop} (I : Inv X pins σ H s) (hN : X.N.Nodup) (hi : X.N[i]? = some x) (hx : Loc X.env.scope x) (r : RelV v u)
  (h : ∀ s', Inv X pins (σ.set i (some v)) H s' → Q () s') (hf : X.fn x = true ∨ X.env.scope.names.lookup x = some .local := by first | exact .inl rfl | exact .inr rfl | assumption) : wpAny M A (storeName X.env x u) Q E s :=
 store_ok2 I hN hi hx r (fun s' I' _ => h s' I') hf
theorem Inv.call' {s' : Shared} {ch : List Addr} (I : Inv X pins σ H s) (ho : s'.os = s.os) (u : Un (frs X.stack) ch H H' s.heap s'.heap) (hok : HOk X.prog X.w H' s'.heap) (hg : AllBare s'.gens)
  (hch : ∀ b ∈ ch, (b ∈ X.ex ∨ X.s₀.heap.objs.size ≤ b) ∧ b ≠ X.env.locals ∧ (∀ x c, X.env.cells.lookup x = some c → c ≠ b) ∧ ∀ p ∈ X.pn ++ pins, p.1 ≠ b) : Inv X pins σ H' s' := by
 obtain ⟨h', g', d', t', o'⟩ := s'
 have e : o' = s.os := ho
 subst e
 exact I.call (g' := g') (t' := t') (d' := d') u hok hg hch
end
noncomputable abbrev XK := Value → Option Addr → Hp → Prop
noncomputable abbrev St := List (Option V)
noncomputable abbrev VK := V → Hp → Prop
noncomputable abbrev TE := St → Hp → VK → Prop
noncomputable abbrev TT := St → Hp → (Bool → Hp → Prop) → Prop
noncomputable abbrev TA := St → Hp → (List V → Hp → Prop) → Prop
structure Ends where
 nx : St → Hp → Prop
 rt : VK
 bk : St → Hp → Prop := fun _ _ => False
 ct : St → Hp → Prop := fun _ _ => False
noncomputable abbrev TS := Ends → St → Hp → Prop
noncomputable def EP (X : Cx) (pins : List (Addr × Obj)) (σ : St) (Q : VK) (u : Value) (s' : Shared) : Prop := ∃ v H', Inv X pins σ H' s' ∧ RelV v u ∧ Q v H'
noncomputable def TP (X : Cx) (pins : List (Addr × Obj)) (σ : St) (Q : Bool → Hp → Prop) (b : Bool) (s' : Shared) : Prop := ∃ H', Inv X pins σ H' s' ∧ Q b H'
noncomputable def AP (X : Cx) (pins : List (Addr × Obj)) (σ : St) (Q : List V → Hp → Prop) (us : List Value) (s' : Shared) : Prop := ∃ vs H', Inv X pins σ H' s' ∧ Vals vs us ∧ Q vs H'
noncomputable def SP (X : Cx) (pins : List (Addr × Obj)) (D : Ends) (f : Flow) (s' : Shared) : Prop :=
 match f with
 | .next => ∃ σ' H', Inv X pins σ' H' s' ∧ D.nx σ' H'
 | .brk => ∃ σ' H', Inv X pins σ' H' s' ∧ D.bk σ' H'
 | .cont => ∃ σ' H', Inv X pins σ' H' s' ∧ D.ct σ' H'
 | .ret u => ∃ v σ' H', Inv X pins σ' H' s' ∧ RelV v u ∧ D.rt v H'
noncomputable def PE (X : Cx) (e : Expr) (t : TE) : Prop :=
 ∀ (pins : List (Addr × Obj)) (s : Shared) (σ : St) (H : Hp) (Q : VK), Inv X pins σ H s → t σ H Q → wpAny (model X.prog X.w) X.A (eval e X.env) (EP X pins σ Q) X.xe s
noncomputable def PT (X : Cx) (e : Expr) (t : TT) : Prop :=
 ∀ (pins : List (Addr × Obj)) (s : Shared) (σ : St) (H : Hp) (Q : Bool → Hp → Prop), Inv X pins σ H s → t σ H Q → wpAny (model X.prog X.w) X.A (isTrue e X.env (eval e X.env)) (TP X pins σ Q) X.xe s
noncomputable def PW (X : Cx) (e : Expr) (t : TT) : Prop :=
 ∀ (whole : Sem Value) (pins : List (Addr × Obj)) (s : Shared) (σ : St) (H : Hp) (Q : Bool → Hp → Prop), Inv X pins σ H s → t σ H Q → wpAny (model X.prog X.w) X.A (isTrue e X.env whole) (TP X pins σ Q) X.xe s
theorem PW.pt {X : Cx} {e : Expr} {t : TT} (h : PW X e t) : PT X e t := h _
noncomputable def PA (X : Cx) (es : List Expr) (t : TA) : Prop :=
 ∀ (pos : Pos) (pins : List (Addr × Obj)) (s : Shared) (σ : St) (H : Hp) (Q : List V → Hp → Prop), Inv X pins σ H s → t σ H Q → wpAny (model X.prog X.w) X.A (spliced (backTo pos (starEach es X.env))) (AP X pins σ Q) X.xe s
noncomputable def PS (X : Cx) (st : Stmt) (t : TS) : Prop :=
 ∀ (pins : List (Addr × Obj)) (s : Shared) (σ : St) (H : Hp) (D : Ends), Inv X pins σ H s → t D σ H → wpAny (model X.prog X.w) X.A (exec st X.env) (SP X pins D) X.xe s
noncomputable def PSs (X : Cx) (st : List Stmt) (t : TS) : Prop :=
 ∀ (pins : List (Addr × Obj)) (s : Shared) (σ : St) (H : Hp) (D : Ends), Inv X pins σ H s → t D σ H → wpAny (model X.prog X.w) X.A (execs st X.env) (SP X pins D) X.xe s
theorem thn {α : Type} {t : Sem α} {Q Q' : α → Shared → Prop} {M : Model} {A : Around} {E : Value → Shared → Prop} {s : Shared} (h : wpAny M A t Q E s) (hQ : ∀ a s, Q a s → Q' a s) : wpAny M A t Q' E s := wpAny_mono h hQ fun _ _ x => x
end L2
namespace L2
open PySem PySem.Spec PyProof.Rows
section
variable {X : Cx}
noncomputable def tVar (i : Nat) : TE := fun σ H Q => ∃ v, σ[i]? = some (some v) ∧ Q v H
noncomputable def tC (v : V) : TE := fun _ H Q => Q v H
theorem pe_var {i : Nat} {x : Str} {pos : Pos} (hN : X.N[i]? = some x) (hv : Vis X.env.scope x) (hd : (x == ("__debug__" : Str)) = false := by decide) (hcd : (x == ("__classdict__" : Str)) = false := by decide) : PE X (.Name x pos) (tVar i) := by
 intro pins s σ H Q I h
 obtain ⟨v, e, h⟩ := h
 obtain ⟨m, hn, hl⟩ := I.loc
 obtain ⟨u, r, l⟩ := hl i x v hN e hv
 have fin : EP X pins σ Q u s := ⟨v, H, I, r, h⟩
 rcases l with ⟨hk, hm⟩ | ⟨hk, c, hc, hcell⟩
 ·exact wpAny_Name (wpAny_loadName_local I.ok.kind hk hn hm fin) hd
 ·rcases hk with hk | hk
  ·exact wpAny_Name (wpAny_loadName_cell I.ok.kind hk hc hcell fin) hd
  ·exact wpAny_Name (wpAny_loadName_free I.ok.kind hk hc hcell fin hcd) hd
theorem pe_int {i j pos} : PE X (.Constant (.int i) j pos) (tC (.int i)) := fun _ _ _ H _ I h => wpAny_Constant_int ⟨.int i, H, I.tok _, ⟨_, rfl⟩, h⟩
theorem pe_bl {b j pos} : PE X (.Constant (.bool b) j pos) (tC (.bl b)) := fun _ _ _ H _ I h => Constant_bool ⟨.bl b, H, I, rfl, h⟩
theorem pe_non {j pos} : PE X (.Constant .none j pos) (tC .non) := fun _ _ _ H _ I h => Constant_none ⟨.non, H, I, rfl, h⟩
theorem pe_str {x j pos} : PE X (.Constant (.str x) j pos) (tC (.str x)) := fun _ _ _ H _ I h => Calls.Constant_str ⟨.str x, H, I.tok _, ⟨_, rfl⟩, h⟩
noncomputable def Gl (X : Cx) (x : Str) : Prop := X.env.kindOf x = some .globalImplicit
theorem ld_glob {E : Value → Shared → Prop} {pins : List (Addr × Obj)} {s : Shared} {σ : St} {H : Hp} {x : Str} {u : Value} {pos : Pos} {Q : Value → Shared → Prop} (I : Inv X pins σ H s) (hg : Gl X x) (hm : X.mg x = some u) (h : Q u s)
  (hd : (x == ("__debug__" : Str)) = false := by decide) : wpAny (model X.prog X.w) X.A (eval (.Name x pos) X.env) Q E s :=
 Calls.Name_function_global I.ok.kind hg (Calls.loadGlobal_global (by rw [I.ok.glob]; exact I.mod.glob.keeps I.bk) hm h) hd
theorem ld_blt {E : Value → Shared → Prop} {pins : List (Addr × Obj)} {s : Shared} {σ : St} {H : Hp} {x : Str} {u : Value} {pos : Pos} {Q : Value → Shared → Prop} (I : Inv X pins σ H s) (hg : Gl X x) (hm : X.mg x = none) (hv : bootBuiltins x = some u) (h : Q u s)
  (hn : x ≠ "__name__" := by decide) (hd : (x == ("__debug__" : Str)) = false := by decide) : wpAny (model X.prog X.w) X.A (eval (.Name x pos) X.env) Q E s := by
 obtain ⟨mb, h1, h2⟩ := I.mod.blt
 exact Calls.Name_function_global I.ok.kind hg (Calls.loadGlobal_builtin (by rw [I.ok.glob]; exact I.mod.glob.keeps I.bk) hm (by rw [I.ok.blt]; exact h1.keeps I.bk) ((h2 x hn).trans hv) h) hd
theorem pe_glob {x : Str} {v : V} {u : Value} {pos : Pos} (hg : Gl X x) (hm : X.mg x = some u) (r : RelV v u) (hd : (x == ("__debug__" : Str)) = false := by decide) : PE X (.Name x pos) (tC v) :=
 fun _ _ _ H _ I h => ld_glob I hg hm ⟨v, H, I, r, h⟩ hd
variable {a b : Expr} {ta tb : TE} {pos : Pos}
noncomputable def PC (X : Cx) (op : CmpOp) (a b : Expr) (t : TE) : Prop :=
 ∀ (pins : List (Addr × Obj)) (s : Shared) (σ : St) (H : Hp) (Q : VK), Inv X pins σ H s → t σ H Q →
  wpAny (model X.prog X.w) X.A (eval a X.env) (fun v s₁ => wpAny (model X.prog X.w) X.A (eval b X.env) (fun u s₂ => wpAny (model X.prog X.w) X.A (compareOp op v u) (EP X pins σ Q) X.xe s₂) X.xe s₁) X.xe s
theorem nobehind (b : Expr) {op : CmpOp} (h : op ≠ .In) (h2 : op ≠ .NotIn) : behindInMarks op b = false := by
 have e1 : (op == CmpOp.In) = false := by cases op <;> first | rfl | exact absurd rfl h
 have e2 : (op == CmpOp.NotIn) = false := by cases op <;> first | rfl | exact absurd rfl h2
 cases b <;> simp [behindInMarks, e1, e2]
noncomputable def tIsN (ta : TE) : TE := fun σ H Q => ta σ H fun x H1 => Q (.bl (decide (x = .non))) H1
noncomputable def tNotN (ta : TE) : TE := fun σ H Q => ta σ H fun x H1 => Q (.bl (!decide (x = .non))) H1
theorem RelV.none_iff {x : V} {v : Value} (r : RelV x v) : (v == Value.none) = decide (x = .non) := by
 cases x with
 | non => cases r; rfl
 | bl _ => cases r; rfl
 | int _ => obtain ⟨t, rfl⟩ := r; rfl
 | str _ => obtain ⟨t, rfl⟩ := r; rfl
 | byt _ => obtain ⟨t, rfl⟩ := r; rfl
 | flt _ => obtain ⟨t, rfl⟩ := r; rfl
 | ref _ => cases r; rfl
 | ty _ => cases r; rfl
theorem pc_isN {j pos'} (ha : PE X a ta) : PC X .Is a (.Constant .none j pos') (tIsN ta) := by
 intro pins s σ H Q I h
 refine thn (ha pins s σ H _ I h) fun v s1 ⟨x, H1, I1, r1, q1⟩ => ?_
 exact Constant_none (is_none_gen ⟨.bl _, H1, I1, by rw [r1.none_iff]; rfl, q1⟩)
noncomputable def tB (t : TE) : TT := fun σ H Q => t σ H fun x H1 => ∃ c, x = .bl c ∧ Q c H1
theorem pt_cmp {op : CmpOp} {t : TE} (h : PC X op a b t) (h1 : behindInMarks op b = false := by first | exact nobehind _ (by decide) (by decide) | rfl) : PT X (.Compare a [op] [b] pos) (tB t) := by
 intro pins s σ H Q I hw
 refine wpAny_isTrue_Compare1 (thn (h pins s σ H _ I hw) fun v s1 h1 => thn h1 fun u s2 h2 => thn h2 fun c s3 ⟨x, H1, I1, r1, q1⟩ => ?_) h1
 obtain ⟨d, rfl, q⟩ := q1
 cases r1
 exact wpAny_truthy_bool ⟨H1, I1, q⟩
variable {tA tB' : TT} {rest : List Expr}
noncomputable def tAnd (t u : TT) : TT := fun σ H Q => t σ H fun c H1 => if c = true then u σ H1 Q else Q false H1
noncomputable def tOr (t u : TT) : TT := fun σ H Q => t σ H fun c H1 => if c = true then Q true H1 else u σ H1 Q
noncomputable def tNot (t : TT) : TT := fun σ H Q => t σ H fun c H1 => Q (!c) H1
theorem pw_and1 (ha : PT X a tA) : PW X (.BoolOp .And [a] pos) tA := by
 intro wh pins s σ H Q I h
 refine isTrue_and (thn (ha pins s σ H Q I h) fun c s1 e => ?_)
 cases c with
 | true => exact isTrue_and_nil e
 | false => exact e
theorem pw_or1 (ha : PT X a tA) : PW X (.BoolOp .Or [a] pos) tA := by
 intro wh pins s σ H Q I h
 refine isTrue_or (thn (ha pins s σ H Q I h) fun c s1 e => ?_)
 cases c with
 | false => exact isTrue_or_nil e
 | true => exact e
theorem pw_and (ha : PT X a tA) (hb : PW X (.BoolOp .And (b :: rest) pos) tB') : PW X (.BoolOp .And (a :: b :: rest) pos) (tAnd tA tB') := by
 intro wh pins s σ H Q I h
 refine isTrue_and (thn (ha pins s σ H _ I h) fun c s1 ⟨H1, I1, q1⟩ => ?_)
 cases c with
 | true => exact hb wh pins s1 σ H1 Q I1 q1
 | false => exact ⟨H1, I1, q1⟩
theorem pw_or (ha : PT X a tA) (hb : PW X (.BoolOp .Or (b :: rest) pos) tB') : PW X (.BoolOp .Or (a :: b :: rest) pos) (tOr tA tB') := by
 intro wh pins s σ H Q I h
 refine isTrue_or (thn (ha pins s σ H _ I h) fun c s1 ⟨H1, I1, q1⟩ => ?_)
 cases c with
 | true => exact ⟨H1, I1, q1⟩
 | false => exact hb wh pins s1 σ H1 Q I1 q1
theorem pt_not (ha : PT X a tA) : PT X (.UnaryOp .Not a pos) (tNot tA) := by
 intro pins s σ H Q I h
 exact isTrue_not (ha pins s σ H (fun c H1 => Q (!c) H1) I h)
noncomputable def tAndV (ta tb : TE) : TE := fun σ H Q => ta σ H fun x H1 => ∃ c, x = .bl c ∧ if c = true then tb σ H1 Q else Q (.bl false) H1
noncomputable def tOrV (ta tb : TE) : TE := fun σ H Q => ta σ H fun x H1 => ∃ c, x = .bl c ∧ if c = true then Q (.bl true) H1 else tb σ H1 Q
noncomputable def tNotV (ta : TE) : TE := fun σ H Q => ta σ H fun x H1 => ∃ c, x = .bl c ∧ Q (.bl (!c)) H1
theorem pe_one {op} {t : TE} (h : PE X a t) : PE X (.BoolOp op [a] pos) t := fun pins s σ H Q I hw => BoolOp_one (h pins s σ H Q I hw)
theorem pe_and (ha : PE X a ta) (hb : PE X (.BoolOp .And (b :: rest) pos) tb) : PE X (.BoolOp .And (a :: b :: rest) pos) (tAndV ta tb) := by
 intro pins s σ H Q I h
 refine BoolOp_and (thn (ha pins s σ H _ I h) fun v s1 ⟨x, H1, I1, r1, q1⟩ => ?_)
 obtain ⟨c, rfl, q1⟩ := q1
 cases r1
 refine wpAny_truthy_bool ?_
 cases c with
 | true => exact hb pins s1 σ H1 Q I1 q1
 | false => exact ⟨.bl false, H1, I1, rfl, q1⟩
noncomputable def tIf (t : TT) (ta tb : TE) : TE := fun σ H Q => t σ H fun c H1 => if c = true then ta σ H1 Q else tb σ H1 Q
end
end L2
namespace L2
open PySem PySem.Spec PyProof.Rows
noncomputable def SqL (K : PySem.W.Frag) (H : Hp) (a : Addr) (xs : List V) : Prop :=
 Rd H a (.lst xs) ∨
  ∃ (o : Obj) (its : Array Value) (n : Nat), K.lookup a = some o ∧ o.cls = .type "list" ∧ o.dict = none ∧ o.data = .seq its n ∧ its.size ≤ sizeLine ∧ Vals xs its.toList
noncomputable def SqT (K : PySem.W.Frag) (H : Hp) (a : Addr) (xs : List V) : Prop :=
 Rd H a (.tup xs) ∨
  ∃ (o : Obj) (its : Array Value) (n : Nat), K.lookup a = some o ∧ o.cls = .type "tuple" ∧ o.data = .seq its n ∧ its.size ≤ sizeLine ∧ Vals xs its.toList
noncomputable def absV : Value → Option V
 | .none => some .non
 | .bool b => some (.bl b)
 | .int i _ => some (.int i)
 | .str x _ => some (.str x)
 | .bytes b _ => some (.byt b)
 | .float b _ => some (.flt b)
 | .ref a => some (.ref a)
 | .type n => some (.ty n)
 | _ => none
theorem RelV.abs {x : V} {u : Value} (r : RelV x u) : absV u = some x := by
 cases x with
 | non => cases r; rfl
 | bl _ => cases r; rfl
 | int _ => obtain ⟨t, rfl⟩ := r; rfl
 | str _ => obtain ⟨t, rfl⟩ := r; rfl
 | byt _ => obtain ⟨t, rfl⟩ := r; rfl
 | flt _ => obtain ⟨t, rfl⟩ := r; rfl
 | ref _ => cases r; rfl
 | ty _ => cases r; rfl
theorem RelV.inj {x y : V} {u : Value} (r : RelV x u) (q : RelV y u) : x = y := Option.some.inj (r.abs.symm.trans q.abs)
theorem Vals.inj : ∀ {xs ys : List V} {us : List Value}, Vals xs us → Vals ys us → xs = ys
 | _, _, _, .nil, .nil => rfl
 | _, _, _, .cons r t, .cons r' t' => by rw [r.inj r', Vals.inj t t']
section
variable {X : Cx} {pins : List (Addr × Obj)} {σ : St} {H : Hp} {s : Shared} {a : Addr} {xs ys : List V}
theorem SqL.of {K : PySem.W.Frag} (h : H a = some (.lst xs)) : SqL K H a xs := .inl (.inl h)
theorem SqT.of {K : PySem.W.Frag} (h : H a = some (.tup xs)) : SqT K H a xs := .inl (.inl h)
theorem Inv.list (I : Inv X pins σ H s) (h : SqL X.K H a xs) : ∃ its : List Value, Vals xs its ∧ PlainL s.heap a its.toArray ∧ xs.length ≤ sizeLine := by
 rcases h with h | ⟨o, its, n, hk, hc, hd, hs, hz, r⟩
 ·obtain ⟨z, its, n, r, e⟩ := h.ok I.hok
  exact ⟨its, r, ⟨_, n, e, rfl, rfl, rfl⟩, z⟩
 ·refine ⟨its.toList, r, ⟨o, n, I.kIn a o hk, hc, hd, by simpa using hs⟩, ?_⟩
  have e := r.length
  simp only [Array.length_toList] at e
  omega
theorem Inv.tuple (I : Inv X pins σ H s) (h : SqT X.K H a xs) : ∃ its : List Value, Vals xs its ∧ IsTup s.heap a its.toArray ∧ xs.length ≤ sizeLine := by
 rcases h with h | ⟨o, its, n, hk, hc, hs, hz, r⟩
 ·obtain ⟨z, its, r, p⟩ := h.ok I.hok
  exact ⟨its, r, p, z⟩
 ·refine ⟨its.toList, r, ⟨o, I.kIn a o hk, hc, n, by simpa using hs⟩, ?_⟩
  have e := r.length
  simp only [Array.length_toList] at e
  omega
theorem Inv.list_inj (I : Inv X pins σ H s) (h : SqL X.K H a xs) (h' : SqL X.K H a ys) : xs = ys := by
 obtain ⟨its, r, ⟨o, n, e, _, _, d⟩, _⟩ := I.list h
 obtain ⟨its', r', ⟨o', n', e', _, _, d'⟩, _⟩ := I.list h'
 rw [e] at e'; cases e'
 rw [d] at d'
 injection d' with d1 _
 have : its = its' := by simpa using congrArg Array.toList d1
 subst this
 exact r.inj r'
end
noncomputable abbrev Cx.wish (X : Cx) (E : Value → Shared → Prop) : Cx := { X with xe := E }
noncomputable abbrev Cx.nox (X : Cx) : Cx := X.wish fun _ _ => False
theorem Cx.Ok.wish {X : Cx} (ok : X.Ok) (E : Value → Shared → Prop) : (X.wish E).Ok :=
 ⟨ok.mod, ok.kind, ok.glob, ok.blt, ok.above, ok.inj, ok.has, ok.cab, ok.hd, ok.frames, ok.stk, ok.exf, ok.bs, ok.bsz, ok.noex, ok.exfs, ok.funs, ok.frf⟩
theorem Cx.Ok.unwish {X : Cx} {E : Value → Shared → Prop} (ok : (X.wish E).Ok) : X.Ok :=
 ⟨ok.mod, ok.kind, ok.glob, ok.blt, ok.above, ok.inj, ok.has, ok.cab, ok.hd, ok.frames, ok.stk, ok.exf, ok.bs, ok.bsz, ok.noex, ok.exfs, ok.funs, ok.frf⟩
section
variable {X : Cx} {pins : List (Addr × Obj)} {σ : St} {H : Hp} {s : Shared} {E : Value → Shared → Prop}
theorem Inv.wish (I : Inv X pins σ H s) (E : Value → Shared → Prop) : Inv (X.wish E) pins σ H s := ⟨I.ok.wish E, I.os, I.bare, I.base, I.loc, I.cell, I.free, I.freeC, I.pin, I.hok, I.len⟩
theorem Inv.unwish (I : Inv (X.wish E) pins σ H s) : Inv X pins σ H s := ⟨I.ok.unwish, I.os, I.bare, I.base, I.loc, I.cell, I.free, I.freeC, I.pin, I.hok, I.len⟩
theorem SP.unwish {D : Ends} {f : Flow} {s' : Shared} (h : SP (X.wish E) pins D f s') : SP X pins D f s' := by
 cases f with
 | next => obtain ⟨σ', H', I, q⟩ := h; exact ⟨σ', H', I.unwish, q⟩
 | brk => obtain ⟨σ', H', I, q⟩ := h; exact ⟨σ', H', I.unwish, q⟩
 | cont => obtain ⟨σ', H', I, q⟩ := h; exact ⟨σ', H', I.unwish, q⟩
 | ret u => obtain ⟨v, σ', H', I, r, q⟩ := h; exact ⟨v, σ', H', I.unwish, r, q⟩
theorem PE.nox {e : Expr} {t : TE} (h : PE X.nox e t) : PE X e t := fun pins s σ H Q I hw =>
 wpAny_mono (h pins s σ H Q (I.wish _) hw) (fun _ _ ⟨v, H', I', r, q⟩ => ⟨v, H', I'.unwish, r, q⟩) fun _ _ z => False.elim z
theorem PT.nox {e : Expr} {t : TT} (h : PT X.nox e t) : PT X e t := fun pins s σ H Q I hw =>
 wpAny_mono (h pins s σ H Q (I.wish _) hw) (fun _ _ ⟨H', I', q⟩ => ⟨H', I'.unwish, q⟩) fun _ _ z => False.elim z
theorem PSs.nox {st : List Stmt} {t : TS} (h : PSs X.nox st t) : PSs X st t := fun pins s σ H D I hw =>
 wpAny_mono (h pins s σ H D (I.wish _) hw) (fun _ _ q => q.unwish) fun _ _ z => False.elim z
end
section
variable {X : Cx} {st : Stmt} {rest : List Stmt} {t u : TS} {e : Expr} {te : TE} {pos : Pos}
noncomputable def tNext : TS := fun D σ H => D.nx σ H
noncomputable def tSeq (t u : TS) : TS := fun D σ H => t { D with nx := u D } σ H
theorem pss_nil : PSs X [] tNext := fun _ _ σ H _ I h => wpAny_execs_nil ⟨σ, H, I, h⟩
theorem pss_cons (h1 : PS X st t) (h2 : PSs X rest u) : PSs X (st :: rest) (tSeq t u) := by
 intro pins s σ H D I h
 refine wpAny_execs_cons (thn (h1 pins s σ H { D with nx := u D } I h) fun f s1 q => ?_)
 cases f with
 | next =>
  obtain ⟨σ', H', I', q⟩ := q
  exact h2 pins s1 σ' H' D I' q
 | ret v => exact q
 | brk => exact q
 | cont => exact q
theorem pss_one (h1 : PS X st t) : PSs X [st] t := by
 intro pins s σ H D I h
 refine wpAny_execs_cons (thn (h1 pins s σ H D I h) fun f s1 q => ?_)
 cases f with
 | next => exact wpAny_execs_nil q
 | ret v => exact q
 | brk => exact q
 | cont => exact q
noncomputable def tCont : TS := fun D σ H => D.ct σ H
theorem Inv.quiet {pins : List (Addr × Obj)} {σ : St} {H : Hp} {s : Shared} (I : Inv X pins σ H s) : interactive X.env = false := by simp [interactive, I.ok.kind]
noncomputable def tDrop (te : TE) : TS := fun D σ H => te σ H fun _ H1 => D.nx σ H1
theorem ps_expr (he : PE X e te) (hs : swapsWith e none pos.line X.env = pure false := by rfl) : PS X (.Expr e pos) (tDrop te) := by
 intro pins s σ H D I h
 exact wpAny_Expr_any (thn (he pins s σ H _ I h) fun v s1 ⟨x, H1, I1, r1, q1⟩ => ⟨σ, H1, I1, q1⟩) I.quiet hs
noncomputable def tRet (te : TE) : TS := fun D σ H => te σ H D.rt
theorem ps_ret (he : PE X e te) : PS X (.Return (some e) pos) (tRet te) := by
 intro pins s σ H D I h
 exact wpAny_Return_some (thn (he pins s σ H _ I h) fun v s1 ⟨x, H1, I1, r1, q1⟩ => ⟨x, σ, H1, I1, r1, q1⟩)
noncomputable def tRetN : TS := fun D _ H => D.rt .non H
noncomputable def tIfS (c : TT) (t u : TS) : TS := fun D σ H => c σ H fun b H1 => if b = true then t D σ H1 else u D σ H1
theorem ps_if {c : Expr} {a b : List Stmt} {tc : TT} (hc : PT X c tc) (ha : PSs X a t) (hb : PSs X b u) : PS X (.If c a b pos) (tIfS tc t u) := by
 intro pins s σ H D I h
 refine wpAny_If (thn (hc pins s σ H _ I h) fun d s1 ⟨H1, I1, q1⟩ => ?_)
 cases d with
 | true => exact ha pins s1 σ H1 D I1 q1
 | false => exact hb pins s1 σ H1 D I1 q1
noncomputable def tNever : TS := fun _ _ _ => False
theorem ps_never : PS X st tNever := fun _ _ _ _ _ _ h => h.elim
end
noncomputable abbrev TG := V → St → Hp → (St → Hp → Prop) → Prop
noncomputable abbrev TGs := List V → St → Hp → (St → Hp → Prop) → Prop
noncomputable def PG (X : Cx) (target : Expr) (t : TG) : Prop :=
 ∀ (pins : List (Addr × Obj)) (s : Shared) (σ : St) (H : Hp) (v : V) (u : Value) (Q : St → Hp → Prop), Inv X pins σ H s → RelV v u → t v σ H Q →
  wpAny (model X.prog X.w) X.A (assign target X.env u) (fun _ s' => ∃ σ' H', Inv X pins σ' H' s' ∧ Q σ' H') X.xe s
noncomputable def PGs (X : Cx) (ts : List Expr) (t : TGs) : Prop :=
 ∀ (pins : List (Addr × Obj)) (s : Shared) (σ : St) (H : Hp) (vs : List V) (us : List Value) (Q : St → Hp → Prop), Inv X pins σ H s → Vals vs us → t vs σ H Q →
  wpAny (model X.prog X.w) X.A (assignInOrder ((assignEach ts X.env).map (·.2)) us) (fun _ s' => ∃ σ' H', Inv X pins σ' H' s' ∧ Q σ' H') X.xe s
noncomputable abbrev TSet := V → V → V → Hp → (Hp → Prop) → Prop
noncomputable def PSet (X : Cx) (t : TSet) : Prop :=
 ∀ (pins : List (Addr × Obj)) (s : Shared) (σ : St) (H : Hp) (o i v : V) (ov iv u : Value) (Q : Hp → Prop), Inv X pins σ H s → RelV o ov → RelV i iv → RelV v u → t o i v H Q →
  wpAny (model X.prog X.w) X.A (setItem ov iv u) (fun _ s' => ∃ H', Inv X pins σ H' s' ∧ Q H') X.xe s
section
variable {X : Cx} {pos : Pos}
noncomputable def gName (i : Nat) : TG := fun v σ H Q => Q (σ.set i (some v)) H
theorem pg_name {i : Nat} {x : Str} (hN : X.N.Nodup) (hi : X.N[i]? = some x) (hx : Loc X.env.scope x) (hf : X.fn x = true ∨ X.env.scope.names.lookup x = some .local := by first | exact .inl rfl | exact .inr rfl | assumption) : PG X (.Name x pos) (gName i) := by
 intro pins s σ H v u Q I r h
 exact wpAny_assign_Name (store_ok I hN hi hx r (fun s' I' => ⟨_, H, I', h⟩) hf)
noncomputable def gNil : TGs := fun vs σ H Q => vs = [] ∧ Q σ H
noncomputable def gCons (t : TG) (u : TGs) : TGs := fun vs σ H Q => ∃ v r, vs = v :: r ∧ t v σ H fun σ' H' => u r σ' H' Q
theorem pgs_nil : PGs X [] gNil := by
 intro pins s σ H vs us Q I r h
 obtain ⟨e, h⟩ := h
 subst e
 cases r
 exact assignInOrder_nil ⟨σ, H, I, h⟩
theorem pgs_cons {e : Expr} {es : List Expr} {t : TG} {u : TGs} (h1 : PG X e t) (h2 : PGs X es u)
  (hs : (assignEach (e :: es) X.env).map (·.2) = assign e X.env :: (assignEach es X.env).map (·.2) := by rfl) : PGs X (e :: es) (gCons t u) := by
 intro pins s σ H vs us Q I r h
 obtain ⟨v, vr, e1, h⟩ := h
 subst e1
 cases r with
 | cons r rr =>
  rw [hs]
  refine assignInOrder_cons (thn (h1 pins s σ H _ _ _ I r h) fun _ s1 ⟨σ1, H1, I1, q1⟩ => ?_)
  exact h2 pins s1 σ1 H1 _ _ Q I1 rr q1
noncomputable def gTup (K : PySem.W.Frag) (n : Nat) (t : TGs) : TG := fun v σ H Q => ∃ a xs, v = .ref a ∧ SqT K H a xs ∧ xs.length = n ∧ t xs σ H Q
theorem pg_tup {es : List Expr} {k : Nat} {t : TGs} {n : Nat} (hc : X.calm = true) (h : PGs X es t)
  (hn : (assignEach es X.env).length = n := by rfl) (hst : (assignEach es X.env).findIdx? (·.1) = none := by rfl) : PG X (.Tuple es k pos) (gTup X.K n t) := by
 intro pins s σ H v u Q I r hw
 obtain ⟨a, xs, e1, hq, hl, hw⟩ := hw
 subst e1
 cases r
 obtain ⟨its, rv, ht, hz⟩ := I.tuple hq
 refine assign_Tuple_tuple (I.ok.hd hc) ht (by simp [hn, ← hl, rv.length]) hst fun h' hx => ?_
 have I1 : Inv X pins σ H { s with heap := h' } := I.kept (t' := s.toks) fun b o e => hx b o (Nat.ne_of_lt (Heap.lt_size e)) e
 exact h pins _ σ H xs _ Q I1 (by simpa using rv) hw
noncomputable def gSub (to ti : TE) (t : TSet) : TG := fun v σ H Q => to σ H fun o H1 => ti σ H1 fun i H2 => t o i v H2 fun H3 => Q σ H3
theorem pg_sub {o i : Expr} {to ti : TE} {t : TSet} (ho : PE X o to) (hi : PE X i ti) (hs : PSet X t)
  (ha : ∀ v, assign (.Subscript o i pos) X.env v = (do
   let ov ← holding [v] (eval o X.env)
   let iv ← holding [v, ov] (eval i X.env)
   standAt pos
   holding [v, ov, iv] (setItem ov iv v)
   release [v, ov, iv] []) := by intro _; rfl) : PG X (.Subscript o i pos) (gSub to ti t) := by
 intro pins s σ H v u Q I r h
 rw [ha]
 refine wpAny_bind (wpAny_holding (thn (ho pins s σ H _ I h) fun ov s1 ⟨x, H1, I1, r1, q1⟩ => ?_))
 refine wpAny_bind (wpAny_holding (thn (hi pins s1 σ H1 _ I1 q1) fun iv s2 ⟨y, H2, I2, r2, q2⟩ => ?_))
 refine wpAny_bind (wpAny_standAt (wpAny_bind (wpAny_holding (thn (hs pins s2 σ H2 x y v ov iv u _ I2 r1 r2 r q2) fun _ s3 ⟨H3, I3, q3⟩ => ?_))))
 exact wpAny_release ⟨σ, H3, I3, q3⟩
noncomputable def tAsg (te : TE) (g : TG) : TS := fun D σ H => te σ H fun x H1 => g x σ H1 D.nx
theorem ps_asg {tg e : Expr} {te : TE} {g : TG} (he : PE X e te) (hg : PG X tg g) (hs : swapsWithSole [tg] e pos.line X.env = pure false := by rfl) (hw : swappedStores [tg] e X.env = pure none := by rfl)
  (h1 : (assignEach [tg] X.env).map (·.2) = [assign tg X.env] := by rfl) : PS X (.Assign [tg] e pos) (tAsg te g) := by
 intro pins s σ H D I h
 refine wpAny_Assign_stores (thn (he pins s σ H _ I h) fun v s1 ⟨x, H1, I1, r1, q1⟩ => ?_) hs hw
 rw [h1]
 exact thn (hg pins s1 σ H1 x v _ I1 r1 q1) fun _ s2 q => q
theorem ps_set {i : Nat} {x : Str} {e : Expr} {te : TE} {pos' : Pos} (hN : X.N.Nodup) (hi : X.N[i]? = some x) (hx : Loc X.env.scope x) (he : PE X e te) (hs : swapsWith e (some (.Name x pos')) pos.line X.env = pure false := by rfl) (hf : X.fn x = true ∨ X.env.scope.names.lookup x = some .local := by first | exact .inl rfl | exact .inr rfl | assumption) :
  PS X (.Assign [.Name x pos'] e pos) (tAsg te (gName i)) := by
 intro pins s σ H D I h
 refine wpAny_Assign_Name (thn (he pins s σ H _ I h) fun v s1 ⟨y, H1, I1, r1, q1⟩ => ?_) hs
 exact store_ok I1 hN hi hx r1 (fun s2 I2 => ⟨_, H1, I2, q1⟩) hf
noncomputable def tPar (i j : Nat) (ta : TA) : TS := fun D σ H => ta σ H fun vs H1 => ∃ v w, vs = [v, w] ∧ D.nx ((σ.set i (some v)).set j (some w)) H1
theorem ps_par {i j : Nat} {x y : Str} {a b : Expr} {ta : TA} {px py pt : Pos} {kt k2 pt2} (hc : X.calm = true) (hN : X.N.Nodup) (hi : X.N[i]? = some x) (hj : X.N[j]? = some y) (hij : i ≠ j)
  (hx : X.env.scope.names.lookup x = some .local) (hy : X.env.scope.names.lookup y = some .local) (ha : PA X [a, b] ta)
  (hw : swappedStores [.Tuple [.Name x px, .Name y py] kt pt] (.Tuple [a, b] k2 pt2) X.env = pure (some [x, y]))
  (hs : swapsWithSole [.Tuple [.Name x px, .Name y py] kt pt] (.Tuple [a, b] k2 pt2) pos.line X.env = pure false := by rfl) :
  PS X (.Assign [.Tuple [.Name x px, .Name y py] kt pt] (.Tuple [a, b] k2 pt2) pos) (tPar i j ta) := by
 intro pins s σ H D I h
 rw [exec_Assign_arm]
 refine wpAny_bind (wpAny_standAt ?_)
 rw [hs]
 refine wpAny_bind (wpAny_pure ?_)
 rw [if_neg (by decide)]
 refine wpAny_bind (Tuple_ (thn (ha _ pins s σ H _ I h) fun us s1 ⟨vs, H1, I1, r1, q1⟩ => ?_))
 obtain ⟨v, w, e1, q1⟩ := q1
 subst e1
 obtain ⟨u1, u2, rfl, rv, rw'⟩ : ∃ u1 u2, us = [u1, u2] ∧ RelV v u1 ∧ RelV w u2 := by
  cases r1 with
  | cons p q =>
   cases q with
   | cons p' q' =>
    cases q'
    exact ⟨_, _, rfl, p, p'⟩
 refine wpAny_newObj_type ?_ (by show 2 ≤ sizeLine; decide)
 have I2 : Inv X pins σ H1 { s1 with heap := s1.heap.push { cls := .type "tuple", data := .seq [u1, u2].toArray } } := I1.kept (t' := s1.toks) fun b o e => Heap.get?_push_of_some _ e
 rw [hw]
 refine wpAny_bind (wpAny_pure ?_)
 show wpAny (model X.prog X.w) X.A (do rule "assign.swapped-stores"; let items ← unpackItems (.ref s1.heap.objs.size) 2 none; assignInOrder [fun v => bindName X.env y v, fun v => bindName X.env x v] items.reverse; pure Flow.next) _ _ _
 refine wpAny_bind (wpAny_rule (wpAny_bind (unpackItems_tuple (items := #[u1, u2]) (I.ok.hd hc) (IsTup.new s1.heap _) fun h' hx' => ?_)))
 have I3 := I2.kept (h' := h') (t' := s1.toks) fun b o e => hx' b o (Nat.ne_of_lt (Heap.lt_size e)) e
 show wpAny _ _ (assignInOrder [fun v => bindName X.env y v, fun v => bindName X.env x v] [u2, u1] >>= fun _ => pure Flow.next) _ _ _
 refine wpAny_bind (assignInOrder_cons (wpAny_bindName (store_ok I3 hN hj (.inl hy) rw' (fun s2 I4 => ?_) (.inr hy))))
 refine assignInOrder_cons (wpAny_bindName (store_ok I4 hN hi (.inl hx) rv (fun s3 I5 => assignInOrder_nil (wpAny_pure ?_)) (.inr hx)))
 rw [List.set_comm _ _ (Ne.symm hij)] at I5
 exact ⟨_, H1, I5, q1⟩
end
section
variable {X : Cx} {pos : Pos}
noncomputable def tWhile (c : TT) (tb : TS) : TS := fun D σ H => ∃ W : Nat → St → Hp → Prop, (∃ m, W m σ H) ∧ ∀ m σ H, W m σ H →
 c σ H fun b H1 => if b = true then ∃ N : St → Hp → Prop, (∀ σ' H', N σ' H' → ∃ m', m' < m ∧ W m' σ' H') ∧ tb { D with nx := N, ct := N, bk := D.nx } σ H1 else D.nx σ H1
theorem ps_while {c : Expr} {body : List Stmt} {tc : TT} {tb : TS} (hp : PassesOwn (model X.prog X.w) X.A X.env X.xe) (hc : PT X c tc) (hb : PSs X body tb) : PS X (.While c body [] pos) (tWhile tc tb) := by
 intro pins s σ H D I h
 obtain ⟨W, ⟨m0, w0⟩, turn⟩ := h
 refine wpAny_While (codeAny_whileLoop (fun n s' => ∃ σ' H', Inv X pins σ' H' s' ∧ W n σ' H') ?_ m0 ⟨σ, H, I, w0⟩)
 rintro n s1 ⟨σ1, H1, I1, w1⟩
 refine wpAny_passesOwn hp (thn (hc pins s1 σ1 H1 _ I1 (turn n σ1 H1 w1)) fun b s2 ⟨H2, I2, q2⟩ => ?_)
 cases b with
 | true =>
  obtain ⟨N, hN, q2⟩ := q2
  rw [if_pos rfl]
  refine wpAny_passesOwn hp (thn (hb pins s2 σ1 H2 _ I2 q2) fun f s3 q3 => ?_)
  cases f with
  | next =>
   obtain ⟨σ3, H3, I3, n3⟩ := q3
   obtain ⟨m', hm, w3⟩ := hN σ3 H3 n3
   exact ⟨m', hm, σ3, H3, I3, w3⟩
  | cont =>
   obtain ⟨σ3, H3, I3, n3⟩ := q3
   obtain ⟨m', hm, w3⟩ := hN σ3 H3 n3
   exact ⟨m', hm, σ3, H3, I3, w3⟩
  | brk => exact q3
  | ret v => exact q3
 | false =>
  rw [if_neg Bool.false_ne_true]
  exact wpAny_execs_nil ⟨σ1, H2, I2, q2⟩
end
structure It where
 go : Nat → Hp → Prop
 yld : Nat → Hp → V → Hp → Prop
 stop : Nat → Hp → Prop
noncomputable def FpOk (X : Cx) (pins : List (Addr × Obj)) (H : Hp) (b : Addr) : Prop :=
 H b = none ∧ b ≠ X.env.locals ∧ b ∉ X.fs ∧ (b ∈ X.ex ∨ X.s₀.heap.objs.size ≤ b) ∧ (∀ x c, X.env.cells.lookup x = some c → c ≠ b) ∧ ∀ p ∈ X.pn ++ pins, p.1 ≠ b
theorem Inv.fpOk {X : Cx} {pins : List (Addr × Obj)} {σ : St} {H H' : Hp} {s : Shared} {b : Addr} (I : Inv X pins σ H s) (hb : s.heap.objs.size ≤ b) (hn : H' b = none) : FpOk X pins H' b := by
 refine ⟨hn, Nat.ne_of_gt (Nat.lt_of_lt_of_le I.lt hb), I.nofs hb, .inr (Nat.le_trans I.sz hb), fun x c e z => ?_, fun p hp z => ?_⟩
 ·obtain ⟨v, q⟩ := I.cell x c e
  exact absurd (Nat.lt_of_lt_of_le q.lt (by rw [z]; exact hb)) (Nat.lt_irrefl _)
 ·exact absurd (Nat.lt_of_lt_of_le (Heap.lt_size (I.pin p hp).1) (by rw [z]; exact hb)) (Nat.lt_irrefl _)
structure Turn (P : Program) (w : World) (K : PySem.W.Frag) (tg : Expr) (J : It) (fp : List Addr) (it : Addr) (tn : Nat → Heap → Prop) : Prop where
 mem : it ∈ fp
 obj : ∀ i h, tn i h → ∀ b ∈ fp, ∃ o, h.get? b = some o ∧ ∀ v, o.data ≠ .cell v
 keep : ∀ i h h', tn i h → (∀ b ∈ fp, ∀ o, h.get? b = some o → h'.get? b = some o) → tn i h'
 item : ∀ (X : Cx), X.prog = P → X.w = w → X.K = K → X.calm = true → ∀ (i : Nat) (pins : List (Addr × Obj)) (s : Shared) (σ : St) (H : Hp) (E : Value → Shared → Prop), Inv X pins σ H s → (∀ b ∈ fp, FpOk X pins H b) → tn i s.heap → J.go i H →
  wpAny (model P w) X.A (pyNext (.ref it)) (fun r s1 => ∃ u, r = some u ∧
   wpAny (model P w) X.A (letOwnedTupleGo tg (.ref it) u) (fun _ s2 => ∃ x H', Inv X pins σ H' s2 ∧ RelV x u ∧ J.yld i H x H' ∧ tn (i + 1) s2.heap ∧ ∀ b ∈ fp, H' b = none) E s1) E s
 done : ∀ (X : Cx), X.prog = P → X.w = w → X.K = K → X.calm = true → ∀ (i : Nat) (pins : List (Addr × Obj)) (s : Shared) (σ : St) (H : Hp) (E : Value → Shared → Prop), Inv X pins σ H s → (∀ b ∈ fp, FpOk X pins H b) → tn i s.heap → J.stop i H →
  wpAny (model P w) X.A (pyNext (.ref it)) (fun r s1 => r = none ∧ Inv X pins σ H s1) E s
 self : ∀ (A : Around) (i : Nat) (s : Shared) (Q : Value → Shared → Prop) (E : Value → Shared → Prop), tn i s.heap → Q (.ref it) s → wpAny (model P w) A (pyIter (.ref it)) Q E s
noncomputable abbrev TI := St → Hp → (It → Hp → Prop) → Prop
noncomputable def PIE (X : Cx) (pins : List (Addr × Obj)) (σ : St) (tg : Expr) (R : It → Hp → Prop) (itv : Value) (s2 : Shared) : Prop :=
 ∃ (it : Addr) (fp : List Addr) (tn : Nat → Heap → Prop) (J : It) (H' : Hp), itv = .ref it ∧ Inv X pins σ H' s2 ∧ Turn X.prog X.w X.K tg J fp it tn ∧ tn 0 s2.heap ∧ (∀ b ∈ fp, FpOk X pins H' b) ∧ R J H'
noncomputable def PI (X : Cx) (tg iter : Expr) (wi : TI) : Prop :=
 ∀ (pins : List (Addr × Obj)) (s : Shared) (σ : St) (H : Hp) (R : It → Hp → Prop), Inv X pins σ H s → wi σ H R →
  wpAny (model X.prog X.w) X.A (eval iter X.env) (fun v s1 => wpAny (model X.prog X.w) X.A (pyIter v) (PIE X pins σ tg R) X.xe s1) X.xe s
theorem go_of {M : Model} {A : Around} {E : Value → Shared → Prop} {s : Shared} {tg : Expr} {it : Addr} {u : Value} {o : Obj} {n : String} {vs : Array Value} {Q : Unit → Shared → Prop} (ho : s.heap.get? it = some o) (hc : o.cls = .type n) (hd : o.data = .fields vs)
  (hn : ["enumerate", "zip", "dict_itemiterator", "dict_reverseitemiterator", "odict_iterator", "itertools.zip_longest", "itertools.pairwise"].contains n = false) (hQ : Q () s) : wpAny M A (letOwnedTupleGo tg (.ref it) u) Q E s := by
 unfold letOwnedTupleGo
 cases tg <;> first
  | exact wpAny_pure hQ
  | (cases u <;> first
    | exact wpAny_pure hQ
    | (refine wpAny_bind (wpAny_load ho ?_); rw [hc, hd]; show wpAny M A (if (["enumerate", "zip", "dict_itemiterator", "dict_reverseitemiterator", "odict_iterator", "itertools.zip_longest", "itertools.pairwise"].contains n && vs[0]? == some (rawInt _)) = true then _ else _) Q E s; rw [if_neg (by intro h; rw [hn, Bool.false_and] at h; cases h)]; exact wpAny_pure hQ))
noncomputable def Itl (K : PySem.W.Frag) (a : Addr) : It :=
 ⟨fun i H => ∃ xs x, SqL K H a xs ∧ xs[i]? = some x, fun i H x H' => H' = H ∧ ∀ xs, SqL K H a xs → xs[i]? = some x, fun i H => ∃ xs, SqL K H a xs ∧ xs.length ≤ i⟩
noncomputable def Itr (lo : Int) (n : Nat) : It := ⟨fun i _ => i < n, fun i H x H' => H' = H ∧ x = .int (lo + i), fun i _ => n ≤ i⟩
theorem turn_list {P : Program} {w : World} {K : PySem.W.Frag} {tg : Expr} (a it : Addr) : Turn P w K tg (Itl K a) [it] it (fun i h => h.IsListIter it a i) where
 mem := by simp
 obj := fun i h st b hb => by
  have e : b = it := by simpa using hb
  subst e
  obtain ⟨o, e, c, d⟩ := st
  exact ⟨o, e, fun v z => by rw [d] at z; cases z⟩
 keep := fun i h h' st k => st.at fun o e => k it (by simp) o e
 item := by
  intro X hP hw hK hc i pins s σ H E I hf st hg
  subst hP hw hK
  obtain ⟨xs, x, hq, hx⟩ := hg
  obtain ⟨its, rv, p, hz⟩ := I.list hq
  obtain ⟨u, hu, ru⟩ := rv.get hx
  obtain ⟨f0, f1, f2, f3, f4, f5⟩ := hf it (by simp)
  refine wpAny_pyNext_list_item st p.isList (x := u) (by simpa using hu) fun h' st' sb => ?_
  have I1 : Inv X pins σ H { s with heap := h' } := I.turned (t' := s.toks) (fun b o hb e => (sb.2 b hb).trans e) f0 f1 f3 f4 f5
  obtain ⟨o, e, c, d⟩ := id st'
  exact ⟨u, rfl, go_of (s := { s with heap := h' }) e c d (by decide) ⟨x, H, I1, ru, ⟨rfl, fun ys hy => by rw [I.list_inj hy hq]; exact hx⟩, st', fun b hb => (hf b hb).1⟩⟩
 done := by
  intro X hP hw hK hc i pins s σ H E I hf st hg
  subst hP hw hK
  obtain ⟨xs, hq, hx⟩ := hg
  obtain ⟨its, rv, p, hz⟩ := I.list hq
  obtain ⟨f0, f1, f2, f3, f4, f5⟩ := hf it (by simp)
  have hl := rv.length
  exact wpAny_pyNext_list_end (I.ok.hd hc) st p.isList (by simp; omega) fun h' eb => ⟨rfl, I.turned (t' := s.toks) (fun b o hb e => eb b o hb e) f0 f1 f3 f4 f5⟩
 self := fun _ _ _ _ _ st h => wpAny_pyIter_listiter st h
theorem turn_range {P : Program} {w : World} {K : PySem.W.Frag} {tg : Expr} (it : Addr) (lo : Int) (n : Nat) : Turn P w K tg (Itr lo n) [it] it (fun i h => IsRangeIter h it (lo + (i : Nat) * 1) ((n : Int) - (i : Nat)) 1) where
 mem := by simp
 obj := fun i h st b hb => by
  have e : b = it := by simpa using hb
  subst e
  exact ⟨_, st, fun v z => by
   have z' : Data.fields _ = Data.cell v := z
   cases z'⟩
 keep := fun i h h' st k => k it (by simp) _ st
 item := by
  intro X hP hw hK hc i pins s σ H E I hf st hg
  subst hP hw hK
  obtain ⟨f0, f1, f2, f3, f4, f5⟩ := hf it (by simp)
  have W := Walks.range (prog := X.prog) (w := X.w) (I.ok.hd hc) it lo 1 n
  refine W.item i s _ _ hg st fun v h' tk hv st' kk => ?_
  obtain ⟨t, rfl⟩ := hv
  have I1 : Inv X pins σ H { s with heap := h', toks := tk } := I.turned (fun b o hb e => kk b o (by simpa using hb) e) f0 f1 f3 f4 f5
  refine ⟨_, rfl, go_of (s := { s with heap := h', toks := tk }) (n := "range_iterator") st' rfl rfl (by decide) ⟨.int (lo + i), H, I1, ⟨t, ?_⟩, ⟨rfl, rfl⟩, st', fun b hb => (hf b hb).1⟩⟩
  rw [Int.mul_one]
 done := by
  intro X hP hw hK hc i pins s σ H E I hf st hg
  subst hP hw hK
  obtain ⟨f0, f1, f2, f3, f4, f5⟩ := hf it (by simp)
  exact wpAny_pyNext_range_end (I.ok.hd hc) st (by have : n ≤ i := hg; omega) fun h' eb => ⟨rfl, I.turned (t' := s.toks) (fun b o hb e => eb b o hb e) f0 f1 f3 f4 f5⟩
 self := fun _ _ _ _ _ st h => wpAny_pyIter_rangeiter st h
end L2
namespace L2
open PySem PySem.Spec PyProof.Rows
section
variable {X : Cx} {tg : Expr}
noncomputable def iList (K : PySem.W.Frag) (tl : TE) : TI := fun σ H R => tl σ H fun x H1 => ∃ a, x = .ref a ∧ (∃ xs, SqL K H1 a xs) ∧ R (Itl K a) H1
theorem pi_list {l : Expr} {tl : TE} (hl : PE X l tl) : PI X tg l (iList X.K tl) := by
 intro pins s σ H R I h
 refine thn (hl pins s σ H _ I h) fun v s1 ⟨x, H1, I1, r1, q1⟩ => ?_
 obtain ⟨a, e, ⟨xs, hq⟩, q⟩ := q1
 subst e
 cases r1
 obtain ⟨its, rv, p, hz⟩ := I1.list hq
 refine wpAny_pyIter_list p.isList ?_
 refine ⟨s1.heap.objs.size, [s1.heap.objs.size], _, _, H1, rfl, I1.kept (t' := s1.toks) fun b o e => Heap.get?_push_of_some _ e, turn_list a _, ⟨_, Heap.get?_push_size _ rfl, rfl, rfl⟩, fun b hb => ?_, q⟩
 have e : b = s1.heap.objs.size := by simpa using hb
 subst e
 exact I1.fpOk (Nat.le_refl _) (I1.hok.fresh (Nat.le_refl _))
theorem range_it {pins : List (Addr × Obj)} {σ : St} {H : Hp} {s : Shared} {R : It → Hp → Prop} {E : Value → Shared → Prop} {lo hi : Int} {t u v : Tok} {tk : Nat} (I : Inv X pins σ H s) (h1 : -(2 ^ 62) ≤ lo) (h2 : lo < 2 ^ 62) (h3 : -(2 ^ 62) ≤ hi) (h4 : hi < 2 ^ 62)
  (q : R (Itr lo (hi - lo).toNat) H) : wpAny (model X.prog X.w) X.A (pyIter (.ref s.heap.objs.size)) (PIE X pins σ tg R) E { s with heap := s.heap.push { cls := .type "range", data := .fields #[.int lo t, .int hi u, .int 1 v] }, toks := tk } := by
 refine wpAny_pyIter_range (IsRange.new ..) (small_one h1 h2 h3 h4) ?_
 have I1 : Inv X pins σ H { s with heap := s.heap.push { cls := .type "range", data := .fields #[.int lo t, .int hi u, .int 1 v] }, toks := tk } := I.kept fun b o e => Heap.get?_push_of_some _ e
 refine ⟨(s.heap.push { cls := .type "range", data := .fields #[.int lo t, .int hi u, .int 1 v] }).objs.size, [(s.heap.push { cls := .type "range", data := .fields #[.int lo t, .int hi u, .int 1 v] }).objs.size], _, _, H, rfl,
  I1.kept (t' := tk) fun b o e => Heap.get?_push_of_some _ e, turn_range _ lo (hi - lo).toNat, ?_, fun b hb => ?_, q⟩
 ·have e1 : lo + ((0 : Nat) : Int) * 1 = lo := by simp
  have e2 : (((hi - lo).toNat : Nat) : Int) - ((0 : Nat) : Int) = Builtin.Range.rangeSize lo hi 1 := by rw [rangeSize_one]; split <;> omega
  show IsRangeIter _ _ (lo + ((0 : Nat) : Int) * 1) ((((hi - lo).toNat : Nat) : Int) - ((0 : Nat) : Int)) 1
  rw [e1, e2]
  exact Heap.get?_push_size _ rfl
 ·have e : b = (s.heap.push { cls := .type "range", data := .fields #[.int lo t, .int hi u, .int 1 v] }).objs.size := by simpa using hb
  subst e
  exact I1.fpOk (Nat.le_refl _) (I1.hok.fresh (Nat.le_refl _))
noncomputable def iRng1 (ta : TA) : TI := fun σ H R => ta σ H fun vs H1 => ∃ j : Int, vs = [.int j] ∧ -(2 ^ 62) ≤ j ∧ j < 2 ^ 62 ∧ R (Itr 0 j.toNat) H1
theorem pi_range1 {a : Expr} {ta : TA} {p pos : Pos} (hg : Gl X "range") (hm : X.mg "range" = none) (ha : PA X [a] ta) (hs : starEach [a] X.env = [(false, eval a X.env)] := by rfl) : PI X tg (.Call (.Name "range" p) [a] [] pos) (iRng1 ta) := by
 intro pins s σ H R I h
 refine Call_ (ld_blt I hg hm boot_range (PyProof.Rows.callWith_type1 (thn (ha pos pins s σ H _ I h) fun us s1 ⟨vs, H1, I1, r1, q1⟩ => ?_) hs rfl))
 obtain ⟨j, e, q1, q2, q⟩ := q1
 subst e
 cases r1 with
 | cons r rr =>
  cases rr
  obtain ⟨t, rfl⟩ := r
  exact call_range_1 (range_it I1 (by omega) (by omega) q1 q2 (by simpa using q))
noncomputable def tFor (wi : TI) (g : TG) (tb : TS) : TS := fun D σ H => wi σ H fun J H1 => ∃ W : Nat → Nat → St → Hp → Prop, (∃ m, W 0 m σ H1) ∧ ∀ i m σ H, W i m σ H →
 (J.stop i H ∧ D.nx σ H) ∨ (J.go i H ∧ ∃ N : St → Hp → Prop, (∀ σ' H', N σ' H' → ∃ m', m' < m ∧ W (i + 1) m' σ' H') ∧ ∀ x H', J.yld i H x H' → g x σ H' fun σ2 H2 => tb { D with nx := N, ct := N, bk := D.nx } σ2 H2)
noncomputable def pinsAt (fp : List Addr) (h : Heap) : List (Addr × Obj) := fp.filterMap fun b => (h.get? b).map fun o => (b, o)
theorem mem_pinsAt {fp : List Addr} {h : Heap} {b : Addr} {o : Obj} (hb : b ∈ fp) (e : h.get? b = some o) : (b, o) ∈ pinsAt fp h := List.mem_filterMap.mpr ⟨b, hb, by rw [e]; rfl⟩
theorem of_pinsAt {fp : List Addr} {h : Heap} {p : Addr × Obj} (hp : p ∈ pinsAt fp h) : p.1 ∈ fp ∧ h.get? p.1 = some p.2 := by
 obtain ⟨b, hb, e⟩ := List.mem_filterMap.mp hp
 cases q : h.get? b with
 | none => rw [q] at e; cases e
 | some o =>
  rw [q] at e
  have e' : (b, o) = p := Option.some.inj e
  subst e'
  exact ⟨hb, q⟩
theorem Inv.pinned {pins : List (Addr × Obj)} {σ : St} {H : Hp} {s : Shared} {fp : List Addr} (I : Inv X pins σ H s) (hf : ∀ b ∈ fp, FpOk X pins H b) (ho : ∀ b ∈ fp, ∃ o, s.heap.get? b = some o ∧ ∀ v, o.data ≠ .cell v) : Inv X (pins ++ pinsAt fp s.heap) σ H s :=
 I.pins_of fun p hp => (List.mem_append.mp hp).elim (fun z => I.pin p (List.mem_append_right _ z)) fun z => by
  obtain ⟨hb, e⟩ := of_pinsAt z
  obtain ⟨f0, f1, f2, _⟩ := hf p.1 hb
  obtain ⟨o, e', d⟩ := ho p.1 hb
  rw [e] at e'; cases e'
  exact ⟨e, f0, f1, f2, d⟩
theorem Inv.unpinned {pins pl : List (Addr × Obj)} {σ : St} {H : Hp} {s : Shared} (I : Inv X (pins ++ pl) σ H s) : Inv X pins σ H s := I.pins_of fun p hp => I.pin p (List.mem_append_right _ (List.mem_append_left _ hp))
theorem ps_for {iter : Expr} {body : List Stmt} {wi : TI} {g : TG} {tb : TS} {pos : Pos} (hp : PassesOwn (model X.prog X.w) X.A X.env X.xe) (hc : X.calm = true) (hi : PI X tg iter wi) (hg : PG X tg g) (hb : PSs X body tb)
  (hs : ∀ x, foldedSetIterable iter X.env x = pure x := by intro _; rfl) : PS X (.For tg iter body [] pos) (tFor wi g tb) := by
 intro pins s σ H D I h
 refine wpAny_For (thn (hi pins s σ H _ I h) fun v s1 h1 => thn h1 fun itv s2 h2 => ?_) hs
 obtain ⟨it, fp, tn, J, H2, e, I2, T, st2, f2, W, ⟨m0, w0⟩, turn⟩ := h2
 subst e
 -- what stays true of the iterator's objects through the loop
 have stat : ∀ {H' : Hp}, (∀ b ∈ fp, H' b = none) → ∀ b ∈ fp, FpOk X pins H' b := fun hn b hb => ⟨hn b hb, (f2 b hb).2⟩
 refine codeAny_forLoop_any (fun n s' => ∃ i σ' H', Inv X pins σ' H' s' ∧ tn i s'.heap ∧ (∀ b ∈ fp, H' b = none) ∧ W i n σ' H') ?_ m0 ⟨0, σ, H2, I2, st2, fun b hb => (f2 b hb).1, w0⟩
 rintro n s3 ⟨i, σ3, H3, I3, st3, fr3, w3⟩
 rcases turn i n σ3 H3 w3 with ⟨stop, qn⟩ | ⟨go, N, hN, step⟩
 ·refine wpAny_passesOwn hp (thn (T.done X rfl rfl rfl hc i pins s3 σ3 H3 X.xe I3 (stat fr3) st3 stop) fun r s4 ⟨hr, I4⟩ => ?_)
  subst hr
  exact wpAny_execs_nil ⟨σ3, H3, I4, qn⟩
 ·refine wpAny_passesOwn hp (thn (T.item X rfl rfl rfl hc i pins s3 σ3 H3 X.xe I3 (stat fr3) st3 go) fun r s4 ⟨u, hr, h4⟩ => ?_)
  subst hr
  refine wpAny_passesOwn hp (thn h4 fun _ s5 ⟨x, H5, I5, r5, y5, st5, fr5⟩ => ?_)
  have I5' := I5.pinned (stat fr5) (T.obj _ _ st5)
  refine wpAny_passesOwn hp (thn (hg _ s5 σ3 H5 x u _ I5' r5 (step x H5 y5)) fun _ s6 ⟨σ6, H6, I6, q6⟩ => ?_)
  refine wpAny_passesOwn hp (thn (hb _ s6 σ6 H6 _ I6 q6) fun f s7 q7 => ?_)
  have again : ∀ {σ7 : St} {H7 : Hp}, Inv X (pins ++ pinsAt fp s5.heap) σ7 H7 s7 → N σ7 H7 → ∃ m, m < n ∧ ∃ i σ' H', Inv X pins σ' H' s7 ∧ tn i s7.heap ∧ (∀ b ∈ fp, H' b = none) ∧ W i m σ' H' := fun {σ7 H7} I7 n7 => by
   obtain ⟨m', hm, w7⟩ := hN σ7 H7 n7
   refine ⟨m', hm, i + 1, σ7, H7, I7.unpinned, T.keep _ _ _ st5 fun b hb o e => (I7.pin (b, o) (List.mem_append_right _ (List.mem_append_right _ (mem_pinsAt hb e)))).1, fun b hb => ?_, w7⟩
   obtain ⟨o, e, d⟩ := T.obj _ _ st5 b hb
   exact (I7.pin (b, o) (List.mem_append_right _ (List.mem_append_right _ (mem_pinsAt hb e)))).2.1
  cases f with
  | next => obtain ⟨σ7, H7, I7, n7⟩ := q7; exact again I7 n7
  | cont => obtain ⟨σ7, H7, I7, n7⟩ := q7; exact again I7 n7
  | brk => obtain ⟨σ7, H7, I7, q7⟩ := q7; exact ⟨σ7, H7, I7.unpinned, q7⟩
  | ret v => obtain ⟨x7, σ7, H7, I7, r7, q7⟩ := q7; exact ⟨x7, σ7, H7, I7.unpinned, r7, q7⟩
end
theorem for_list {K : PySem.W.Frag} {a : Addr} {xs : List V} {g : TG} {tb : TS} {D : Ends} {σ : St} {H : Hp} (Pv : Nat → St → Hp → Prop) (h0 : Pv 0 σ H) (hl : ∀ i σ H, i ≤ xs.length → Pv i σ H → SqL K H a xs)
  (hs : ∀ i x σ H, xs[i]? = some x → Pv i σ H → g x σ H fun σ2 H2 => tb { D with nx := Pv (i + 1), ct := Pv (i + 1), bk := D.nx } σ2 H2) (hd : ∀ σ H, Pv xs.length σ H → D.nx σ H) :
  ∃ W : Nat → Nat → St → Hp → Prop, (∃ m, W 0 m σ H) ∧ ∀ i m σ H, W i m σ H →
   ((Itl K a).stop i H ∧ D.nx σ H) ∨ ((Itl K a).go i H ∧ ∃ N : St → Hp → Prop, (∀ σ' H', N σ' H' → ∃ m', m' < m ∧ W (i + 1) m' σ' H') ∧ ∀ x H', (Itl K a).yld i H x H' → g x σ H' fun σ2 H2 => tb { D with nx := N, ct := N, bk := D.nx } σ2 H2) := by
 refine ⟨fun i m σ H => m = xs.length - i ∧ i ≤ xs.length ∧ Pv i σ H, ⟨xs.length, by simp, Nat.zero_le _, h0⟩, ?_⟩
 rintro i m σ H ⟨rfl, hi, p⟩
 have q := hl i σ H hi p
 by_cases hlt : i < xs.length
 ·refine .inr ⟨⟨xs, xs[i], q, by simp [hlt]⟩, Pv (i + 1), fun σ' H' p' => ⟨xs.length - (i + 1), by omega, rfl, hlt, p'⟩, fun x H' y => ?_⟩
  obtain ⟨e, y⟩ := y
  subst e
  exact hs i x σ _ (y xs q) p
 ·have e : i = xs.length := by omega
  subst e
  exact .inl ⟨⟨xs, q, Nat.le_refl _⟩, hd σ H p⟩
theorem for_range {lo : Int} {n : Nat} {g : TG} {tb : TS} {D : Ends} {σ : St} {H : Hp} (Pv : Nat → St → Hp → Prop) (h0 : Pv 0 σ H)
  (hs : ∀ i σ H, i < n → Pv i σ H → g (.int (lo + i)) σ H fun σ2 H2 => tb { D with nx := Pv (i + 1), ct := Pv (i + 1), bk := D.nx } σ2 H2) (hd : ∀ σ H, Pv n σ H → D.nx σ H) :
  ∃ W : Nat → Nat → St → Hp → Prop, (∃ m, W 0 m σ H) ∧ ∀ i m σ H, W i m σ H →
   ((Itr lo n).stop i H ∧ D.nx σ H) ∨ ((Itr lo n).go i H ∧ ∃ N : St → Hp → Prop, (∀ σ' H', N σ' H' → ∃ m', m' < m ∧ W (i + 1) m' σ' H') ∧ ∀ x H', (Itr lo n).yld i H x H' → g x σ H' fun σ2 H2 => tb { D with nx := N, ct := N, bk := D.nx } σ2 H2) := by
 refine ⟨fun i m σ H => m = n - i ∧ i ≤ n ∧ Pv i σ H, ⟨n, by simp, Nat.zero_le _, h0⟩, ?_⟩
 rintro i m σ H ⟨rfl, hi, p⟩
 by_cases hlt : i < n
 ·refine .inr ⟨hlt, Pv (i + 1), fun σ' H' p' => ⟨n - (i + 1), by omega, rfl, hlt, p'⟩, fun x H' y => ?_⟩
  obtain ⟨e, y⟩ := y
  subst e y
  exact hs i σ _ hlt p
 ·have e : i = n := by omega
  subst e
  exact .inl ⟨Nat.le_refl _, hd σ H p⟩
end L2
namespace L2
open PySem PySem.Spec PyProof.Rows
noncomputable abbrev R2 := V → V → Hp → VK → Prop
noncomputable def OpR (X : Cx) (f : Value → Value → Sem Value) (r : R2) : Prop :=
 ∀ (pins : List (Addr × Obj)) (s : Shared) (σ : St) (H : Hp) (x y : V) (v u : Value) (Q : VK), Inv X pins σ H s → RelV x v → RelV y u → r x y H Q →
  wpAny (model X.prog X.w) X.A (f v u) (EP X pins σ Q) X.xe s
noncomputable def UnR (X : Cx) (f : Value → Sem Value) (r : V → Hp → VK → Prop) : Prop :=
 ∀ (pins : List (Addr × Obj)) (s : Shared) (σ : St) (H : Hp) (x : V) (v : Value) (Q : VK), Inv X pins σ H s → RelV x v → r x H Q →
  wpAny (model X.prog X.w) X.A (f v) (EP X pins σ Q) X.xe s
noncomputable def CallR (X : Cx) (f : Value) (r : List V → Hp → VK → Prop) : Prop :=
 ∀ (pins : List (Addr × Obj)) (s : Shared) (σ : St) (H : Hp) (xs : List V) (us : List Value) (Q : VK), Inv X pins σ H s → Vals xs us → r xs H Q →
  wpAny (model X.prog X.w) X.A (call f us) (EP X pins σ Q) X.xe s
noncomputable def tOp (r : R2) (ta tb : TE) : TE := fun σ H Q => ta σ H fun x H1 => tb σ H1 fun y H2 => r x y H2 Q
noncomputable def tUn (r : V → Hp → VK → Prop) (ta : TE) : TE := fun σ H Q => ta σ H fun x H1 => r x H1 Q
noncomputable def rI (C : Int → Int → Prop) (g : Int → Int → V) : R2 := fun x y H Q => ∃ i j, x = .int i ∧ y = .int j ∧ C i j ∧ Q (g i j) H
noncomputable def rI0 (g : Int → Int → V) : R2 := fun x y H Q => ∃ i j, x = .int i ∧ y = .int j ∧ Q (g i j) H
noncomputable def rU (g : Int → V) : V → Hp → VK → Prop := fun x H Q => ∃ i, x = .int i ∧ Q (g i) H
section
variable {X : Cx} {a b c : Expr} {ta tb tc : TE} {pos : Pos}
theorem binT (ha : PE X a ta) (hb : PE X b tb) {pins : List (Addr × Obj)} {s : Shared} {σ : St} {H : Hp} {R : V → V → Hp → Prop} (I : Inv X pins σ H s)
  (h : ta σ H fun x H1 => tb σ H1 fun y H2 => R x y H2) {Q : Value → Shared → Prop} {f : Value → Value → Sem Value}
  (hf : ∀ v u s2 x y H2, Inv X pins σ H2 s2 → RelV x v → RelV y u → R x y H2 → wpAny (model X.prog X.w) X.A (f v u) Q X.xe s2) :
  wpAny (model X.prog X.w) X.A (eval a X.env) (fun v s₁ => wpAny (model X.prog X.w) X.A (eval b X.env) (fun u s₂ => wpAny (model X.prog X.w) X.A (f v u) Q X.xe s₂) X.xe s₁) X.xe s := by
 refine thn (ha pins s σ H _ I h) fun v s1 ⟨x, H1, I1, r1, q1⟩ => ?_
 refine thn (hb pins s1 σ H1 _ I1 q1) fun u s2 ⟨y, H2, I2, r2, q2⟩ => ?_
 exact hf v u s2 x y H2 I2 r1 r2 q2
theorem pe_op {op : Operator} {r : R2} (ho : OpR X (binaryOp op) r) (ha : PE X a ta) (hb : PE X b tb) : PE X (.BinOp a op b pos) (tOp r ta tb) := by
 intro pins s σ H Q I h
 exact wpAny_BinOp (binT ha hb I h fun v u s2 x y H2 I2 rx ry q => ho pins s2 σ H2 x y v u Q I2 rx ry q)
theorem pe_un {op : UnaryOp} {r : V → Hp → VK → Prop} (ho : UnR X (unaryOp op) r) (ha : PE X a ta) : PE X (.UnaryOp op a pos) (tUn r ta) := by
 intro pins s σ H Q I h
 exact UnaryOp_ (thn (ha pins s σ H _ I h) fun v s1 ⟨x, H1, I1, r1, q1⟩ => ho pins s1 σ H1 x v Q I1 r1 q1)
theorem opI {f : Value → Value → Sem Value} {C : Int → Int → Prop} {g : Int → Int → Int}
  (rule : ∀ (i j : Int) (t u : Tok) (s : Shared) (Q : Value → Shared → Prop) (E : Value → Shared → Prop), C i j → Q (.int (g i j) s.toks) { s with toks := s.toks + 1 } → wpAny (model X.prog X.w) X.A (f (.int i t) (.int j u)) Q E s) :
  OpR X f (rI C fun i j => .int (g i j)) := by
 intro pins s σ H x y v u Q I rx ry h
 obtain ⟨i, j, rfl, rfl, hc, q⟩ := h
 obtain ⟨t, rfl⟩ := rx
 obtain ⟨t', rfl⟩ := ry
 exact rule i j t t' s _ _ hc ⟨.int (g i j), H, I.tok _, ⟨_, rfl⟩, q⟩
theorem opI0 {f : Value → Value → Sem Value} {g : Int → Int → Int}
  (rule : ∀ (i j : Int) (t u : Tok) (s : Shared) (Q : Value → Shared → Prop) (E : Value → Shared → Prop), Q (.int (g i j) s.toks) { s with toks := s.toks + 1 } → wpAny (model X.prog X.w) X.A (f (.int i t) (.int j u)) Q E s) :
  OpR X f (rI0 fun i j => .int (g i j)) := by
 intro pins s σ H x y v u Q I rx ry h
 obtain ⟨i, j, rfl, rfl, q⟩ := h
 obtain ⟨t, rfl⟩ := rx
 obtain ⟨t', rfl⟩ := ry
 exact rule i j t t' s _ _ ⟨.int (g i j), H, I.tok _, ⟨_, rfl⟩, q⟩
theorem opB0 {f : Value → Value → Sem Value} {g : Int → Int → Bool}
  (rule : ∀ (i j : Int) (t u : Tok) (s : Shared) (Q : Value → Shared → Prop) (E : Value → Shared → Prop), Q (.bool (g i j)) s → wpAny (model X.prog X.w) X.A (f (.int i t) (.int j u)) Q E s) :
  OpR X f (rI0 fun i j => .bl (g i j)) := by
 intro pins s σ H x y v u Q I rx ry h
 obtain ⟨i, j, rfl, rfl, q⟩ := h
 obtain ⟨t, rfl⟩ := rx
 obtain ⟨t', rfl⟩ := ry
 exact rule i j t t' s _ _ ⟨.bl (g i j), H, I, rfl, q⟩
noncomputable def CMul (i j : Int) : Prop := (-(2 ^ 64) < i ∧ i < 2 ^ 64) ∨ (-(2 ^ 64) < j ∧ j < 2 ^ 64)
theorem CMul.ok {i j : Int} (h : CMul i j) : IntMulOk i j := by
 rcases h with ⟨h1, h2⟩ | ⟨h1, h2⟩
 ·exact .of_left (intBits_le_64 h1 h2)
 ·exact .of_right (intBits_le_64 h1 h2)
theorem op_add : OpR X (binaryOp .Add) (rI0 fun i j => .int (i + j)) := opI0 fun _ _ _ _ _ _ _ q => add_int q
theorem op_sub : OpR X (binaryOp .Sub) (rI0 fun i j => .int (i - j)) := opI0 fun _ _ _ _ _ _ _ q => sub_int q
theorem op_mod : OpR X (binaryOp .Mod) (rI (fun _ j => 0 < j) fun i j => .int (i % j)) := opI fun i j _ _ _ _ _ hc q => by
 have h1 : (0 : Int) < j := hc
 exact mod_int' (by omega) (by rw [Int.fmod_eq_emod_of_nonneg i (by omega)]; exact q)
theorem unI {f : Value → Sem Value} {g : Int → Int}
  (rule : ∀ (i : Int) (t : Tok) (s : Shared) (Q : Value → Shared → Prop) (E : Value → Shared → Prop), Q (.int (g i) s.toks) { s with toks := s.toks + 1 } → wpAny (model X.prog X.w) X.A (f (.int i t)) Q E s) :
  UnR X f (rU fun i => .int (g i)) := by
 intro pins s σ H x v Q I rx h
 obtain ⟨i, rfl, q⟩ := h
 obtain ⟨t, rfl⟩ := rx
 exact rule i t s _ _ ⟨.int (g i), H, I.tok _, ⟨_, rfl⟩, q⟩
theorem un_neg : UnR X (unaryOp .USub) (rU fun i => .int (-i)) := unI fun _ _ _ _ _ q => neg_int q
end
noncomputable def scal : V → V → Bool
 | .non, .non => true | .non, .int _ => true | .int _, .non => true | .non, .bl _ => true | .bl _, .non => true | .non, .str _ => true | .str _, .non => true
 | .int _, .int _ => true | .bl _, .bl _ => true | .str _, .str _ => true | .byt _, .byt _ => true
 | .int _, .str _ => true | .str _, .int _ => true | .bl _, .str _ => true | .str _, .bl _ => true
 | _, _ => false
noncomputable def rEq : R2 := fun x y H Q => scal x y = true ∧ Q (.bl (decide (x = y))) H
noncomputable def rNe : R2 := fun x y H Q => scal x y = true ∧ Q (.bl (!decide (x = y))) H
section
variable {X : Cx} {a b c : Expr} {ta tb tc : TE} {pos : Pos}
theorem op_lt : OpR X (compareOp .Lt) (rI0 fun i j => .bl (decide (i < j))) := opB0 fun _ _ _ _ _ _ _ q => lt_int q
theorem op_le : OpR X (compareOp .LtE) (rI0 fun i j => .bl (decide (i ≤ j))) := opB0 fun _ _ _ _ _ _ _ q => le_int q
theorem op_gt : OpR X (compareOp .Gt) (rI0 fun i j => .bl (decide (j < i))) := opB0 fun _ _ _ _ _ _ _ q => gt_int q
theorem op_ge : OpR X (compareOp .GtE) (rI0 fun i j => .bl (decide (j ≤ i))) := opB0 fun _ _ _ _ _ _ _ q => ge_int q
theorem nomark (b : Expr) {op : CmpOp} (h : op ≠ .In := by decide) (h2 : op ≠ .NotIn := by decide) : behindInMarks op b = false := by
 have e1 : (op == CmpOp.In) = false := by cases op <;> first | rfl | exact absurd rfl h
 have e2 : (op == CmpOp.NotIn) = false := by cases op <;> first | rfl | exact absurd rfl h2
 cases b <;> simp [behindInMarks, e1, e2]
theorem pe_cmpR {op : CmpOp} {r : R2} (ho : OpR X (compareOp op) r) (ha : PE X a ta) (hb : PE X b tb) (hm : behindInMarks op b = false) : PE X (.Compare a [op] [b] pos) (tOp r ta tb) := by
 intro pins s σ H Q I h
 exact wpAny_Compare1 (binT ha hb I h fun v u s2 x y H2 I2 rx ry q => ho pins s2 σ H2 x y v u Q I2 rx ry q) hm
noncomputable def tTest (t : TE) : TT := fun σ H Q => t σ H fun x H' => ∃ k, x = .bl k ∧ Q k H'
noncomputable def tChain (r r' : R2) (ta tb tc : TE) : TE := fun σ H Q => ta σ H fun x H1 => tb σ H1 fun y H2 => r x y H2 fun z H3 => ∃ k, z = .bl k ∧
 (if k = true then tc σ H3 fun w' H4 => r' y w' H4 Q else Q (.bl false) H3)
theorem pe_chain {op op' : CmpOp} {r r' : R2} (ho : OpR X (compareOp op) r) (ho' : OpR X (compareOp op') r') (ha : PE X a ta) (hb : PE X b tb) (hc : PE X c tc)
  (hm : lastMarks [op, op'] [b, c] = false := by with_unfolding_all rfl) : PE X (.Compare a [op, op'] [b, c] pos) (tChain r r' ta tb tc) := by
 intro pins s σ H Q I h
 refine Compare_chain (thn (ha pins s σ H _ I h) fun v s1 ⟨x, H1, I1, r1, q1⟩ => chain_link (thn (hb pins s1 σ H1 _ I1 q1) fun u s2 ⟨y, H2, I2, r2, q2⟩ =>
  thn (ho pins s2 σ H2 x y v u _ I2 r1 r2 q2) fun d s3 ⟨z, H3, I3, r3, k, e, q3⟩ => ?_)) hm
 subst e
 cases r3
 refine wpAny_truthy_bool ?_
 cases k with
 | false => exact ite_ff ⟨.bl false, H3, I3, rfl, q3⟩
 | true => exact ite_tt (chain_last (thn (hc pins s3 σ H3 _ I3 q3) fun w' s4 ⟨z', H4, I4, r4, q4⟩ => ho' pins s4 σ H4 y z' u w' Q I4 r2 r4 q4))
theorem pt_chain {op op' : CmpOp} {r r' : R2} (ho : OpR X (compareOp op) r) (ho' : OpR X (compareOp op') r') (ha : PE X a ta) (hb : PE X b tb) (hc : PE X c tc)
  (hm : lastMarks [op, op'] [b, c] = false := by with_unfolding_all rfl) : PT X (.Compare a [op, op'] [b, c] pos) (tTest (tChain r r' ta tb tc)) := by
 intro pins s σ H Q I h
 refine isTrue_chain (thn (ha pins s σ H _ I h) fun v s1 ⟨x, H1, I1, r1, q1⟩ => test_link (thn (hb pins s1 σ H1 _ I1 q1) fun u s2 ⟨y, H2, I2, r2, q2⟩ =>
  thn (ho pins s2 σ H2 x y v u _ I2 r1 r2 q2) fun d s3 ⟨z, H3, I3, r3, k, e, q3⟩ => ?_)) hm
 subst e
 cases r3
 refine wpAny_truthy_bool ?_
 cases k with
 | false =>
  obtain ⟨k', e', q'⟩ := q3
  cases e'
  exact ite_ff ⟨H3, I3, q'⟩
 | true =>
  refine ite_tt (test_last (thn (hc pins s3 σ H3 _ I3 q3) fun w' s4 ⟨z', H4, I4, r4, q4⟩ => thn (ho' pins s4 σ H4 y z' u w' _ I4 r2 r4 q4) fun d' s5 ⟨z2, H5, I5, r5, k2, e2, q5⟩ => ?_))
  subst e2
  cases r5
  exact wpAny_truthy_bool ⟨H5, I5, q5⟩
theorem line63 : (sizeLine : Nat) < 2 ^ 63 := by rw [sizeLine_eq]; decide
theorem vals1 {x : V} {us : List Value} (r : Vals [x] us) : ∃ u, us = [u] ∧ RelV x u := by
 cases r with
 | cons r1 r2 => cases r2; exact ⟨_, rfl, r1⟩
theorem vals2 {x y : V} {us : List Value} (r : Vals [x, y] us) : ∃ u w', us = [u, w'] ∧ RelV x u ∧ RelV y w' := by
 cases r with
 | cons r1 r2 =>
  cases r2 with
  | cons r3 r4 => cases r4; exact ⟨_, _, rfl, r1, r3⟩
theorem call_abs : CallR X (.builtin "abs") (fun xs H Q => ∃ i, xs = [.int i] ∧ Q (.int (if i < 0 then -i else i)) H) := by
 intro pins s σ H xs us Q I r h
 obtain ⟨i, rfl, q⟩ := h
 obtain ⟨u, rfl, t, rfl⟩ := vals1 r
 exact call_abs_int fun u tk => ⟨.int (if i < 0 then -i else i), H, I.tok _, ⟨_, rfl⟩, q⟩
theorem call_min2 (hc : X.calm = true) : CallR X (.builtin "min") (fun xs H Q => ∃ i j, xs = [.int i, .int j] ∧ Q (.int (if j < i then j else i)) H) := by
 intro pins s σ H xs us Q I r h
 obtain ⟨i, j, rfl, q⟩ := h
 obtain ⟨u, w', rfl, ⟨t, rfl⟩, ⟨t', rfl⟩⟩ := vals2 r
 refine min_two_ints (I.ok.hd hc) fun h' tk k => ⟨_, H, I.kept k, ?_, q⟩
 by_cases hj : j < i
 ·rw [if_pos hj, if_pos hj]; exact ⟨_, rfl⟩
 ·rw [if_neg hj, if_neg hj]; exact ⟨_, rfl⟩
end
end L2
namespace L2
open PySem PySem.Spec PyProof.Rows
structure ObjM (h : Heap) (x dx C : Addr) (mA : Str → Option Value) : Prop where
 obj : h.get? x = some (PySem.W.instObj C dx)
 ns : h.Ns1 dx mA
 ne : dx ≠ x
theorem lookIn_ns {h : Heap} {dx : Addr} {mA : Str → Option Value} (n : h.Ns1 dx mA) : ∃ od, h.get? dx = some od ∧ ∀ name, PySem.W.lookIn name od = some (mA name) := by
 obtain ⟨o, es, ep, ho, hd, hk, _, hm⟩ := n
 refine ⟨o, ho, fun name => ?_⟩
 have e := hm name
 unfold nsFind findBy at e
 rw [← Array.find?_toList] at e
 unfold PySem.W.lookIn
 rw [hd]
 dsimp only
 split
 ·rename_i y q
  rw [q] at e
  exact congrArg some e
 ·rename_i q
  rw [q] at e
  have a : es.toList.any (·.refKey) = false := by
   rw [List.any_eq_false]
   intro y hy
   obtain ⟨z, t, hkey⟩ := hk y (Array.mem_toList_iff.mp hy)
   simp [DictEntry.refKey, hkey]
  have a' : ¬ es.toList.any (·.refKey) = true := by rw [a]; exact Bool.false_ne_true
  rw [if_neg a']
  exact congrArg some e
theorem ObjM.look {h : Heap} {x dx C : Addr} {mA : Str → Option Value} (I : ObjM h x dx C mA) : ∃ od, PySem.W.InstAt h x (PySem.W.instObj C dx) C (some od) ∧ ∀ name, PySem.W.lookIn name od = some (mA name) :=
 let ⟨od, ho, hl⟩ := lookIn_ns I.ns
 ⟨od, ⟨I.obj, rfl, rfl, ho⟩, hl⟩
theorem RelO.none_of {o : Option Value} (r : RelO none o) : o = none := by
 cases o with
 | none => rfl
 | some u => exact (show False from r).elim
structure Cls (K : PySem.W.Frag) (C : Addr) : Prop where
 pg : PySem.W.plainGet K C Str.empty = true
 hd : PySem.W.hasDictIn K C = true
 po : PySem.W.plainOver K C = true
 sa : PySem.W.findIn K (.ref C) "__setattr__" = some (some (.builtin "object.__setattr__"))
theorem Cls.get {K : PySem.W.Frag} {C : Addr} (c : Cls K C) (f : Str) : PySem.W.plainGet K C f = true := c.pg
section
variable {X : Cx} {pins : List (Addr × Obj)} {σ : St} {H : Hp} {s : Shared} {a C dx : Addr} {fs : List (Str × V)} {f : Str} {v : V} {A : Around} {E : Value → Shared → Prop}
theorem attr_of {prog : Program} {w : World} {env : Env} {e : Expr} {f : Str} {pos : Pos} {s : Shared} {Q : Value → Shared → Prop} (hb : attributeBase e f env (eval e env) = eval e env)
  (h : wpAny (model prog w) A (eval e env) (fun o s₁ => wpAny (model prog w) A (getAttr o f true) Q E s₁) E s) : wpAny (model prog w) A (eval (.Attribute e f pos) env) Q E s :=
 Attribute_any_ h (by rw [arm_eval_Attribute, hb])
end
end L2
namespace L2
open PySem PySem.Spec PyProof.Rows
structure Room (k : Nat) (A : Around) : Prop where
 hd : A.handled = none
 dp : A.depth + 3 * k + 5 < recursionLimit
 un : A.units + 16 * k + 200 < cLine
theorem Room.mono {j k : Nat} {A : Around} (r : Room k A) (h : j ≤ k) : Room j A := ⟨r.hd, by have := r.dp; omega, by have := r.un; omega⟩
theorem Room.deeper {k : Nat} {A : Around} (r : Room (k + 1) A) (env : Env) : Room k (A.deeper env) :=
 ⟨r.hd, by have := r.dp; show A.depth + 1 + 3 * k + 5 < _; omega, by have := r.un; show A.units + 3 + 16 * k + 200 < _; omega⟩
theorem Room.in1 {k : Nat} {A : Around} (r : Room (k + 1) A) : Room k A.in1 :=
 ⟨r.hd, by have := r.dp; show A.depth + 3 * k + 5 < _; omega, by have := r.un; show A.units + 1 + 16 * k + 200 < _; omega⟩
theorem make_depth {A : Around} {C : Addr} {us : List Value} {kw : List (Str × Value)} : (A.under (.builtin "type.__call__" ⟨.ref C :: us, kw⟩)).depth = A.depth + 1 := by
 first | rfl | simp [Around.under, Code.weight, Code.isCreation, Code.isGuard, Code.isCaller, Code.frames, Code.isFrame, guardIds]
theorem Room.depth {k : Nat} {A : Around} (r : Room k A) : A.depth < recursionLimit := by have := r.dp; omega
theorem Room.units {k : Nat} {A : Around} (r : Room k A) : A.units + 64 < cLine := by have := r.un; omega
noncomputable def tNil : TA := fun _ H Q => Q [] H
noncomputable def tCons (ta : TE) (tr : TA) : TA := fun σ H Q => ta σ H fun x H1 => tr σ H1 fun xs H2 => Q (x :: xs) H2
section
variable {X : Cx} {e : Expr} {es : List Expr} {te : TE} {t : TA} {pos : Pos}
theorem pa_nil : PA X [] tNil := fun _ _ _ _ H Q I h => Calls.spliced_nil ⟨[], H, I, .nil, h⟩
theorem pa_cons (ha : PE X e te) (hr : PA X es t) (hs : starEach (e :: es) X.env = (false, eval e X.env) :: starEach es X.env := by rfl) : PA X (e :: es) (tCons te t) := by
 intro pos pins s σ H Q I h
 rw [hs]
 show wpAny _ _ (spliced ((false, eval e X.env) :: backTo pos (starEach es X.env))) _ _ s
 refine Calls.spliced_cons (thn (ha pins s σ H _ I h) fun u s1 ⟨x, H1, I1, r1, q1⟩ => ?_)
 exact thn (hr pos pins s1 σ H1 _ I1 q1) fun us s2 ⟨xs, H2, I2, r2, q2⟩ => ⟨x :: xs, H2, I2, .cons r1 r2, q2⟩
noncomputable def tTup (t : TA) : TE := fun σ H Q => t σ H fun xs H1 => xs.length ≤ sizeLine ∧ ∀ p, H1 p = none → Q (.ref p) (upd H1 p (.tup xs))
noncomputable def tLst (t : TA) : TE := fun σ H Q => t σ H fun xs H1 => xs.length ≤ sizeLine ∧ ∀ p, H1 p = none → Q (.ref p) (upd H1 p (.lst xs))
theorem pe_tup {x1} (h : PA X es t) : PE X (.Tuple es x1 pos) (tTup t) := by
 intro pins s σ H Q I hq
 refine wpAny_Tuple_spliced (thn (h pos pins s σ H _ I hq) fun us s1 ⟨xs, H1, I1, r, z, q⟩ => ⟨by rw [← r.length]; exact z, ?_⟩)
 have hf : H1 s1.heap.objs.size = none := I1.hok.fresh (Nat.le_refl _)
 refine ⟨.ref s1.heap.objs.size, upd H1 s1.heap.objs.size (.tup xs), I1.laid (t' := s1.toks) (fun b u e => Heap.get?_push_of_some _ e) (Nat.le_refl _) ?_, rfl, q _ hf⟩
 exact ⟨z, us, r, ⟨_, Heap.get?_push_size _ rfl, rfl, _, rfl⟩⟩
theorem pe_lst (h : PA X es t) : PE X (.List es pos) (tLst t) := by
 intro pins s σ H Q I hq
 refine wpAny_List_spliced (thn (h pos pins s σ H _ I hq) fun us s1 ⟨xs, H1, I1, r, z, q⟩ => ⟨by rw [← r.length]; exact z, ?_⟩)
 have hf : H1 s1.heap.objs.size = none := I1.hok.fresh (Nat.le_refl _)
 refine ⟨.ref s1.heap.objs.size, upd H1 s1.heap.objs.size (.lst xs), I1.laid (t' := s1.toks) (fun b u e => Heap.get?_push_of_some _ e) (Nat.le_refl _) ?_, rfl, q _ hf⟩
 exact ⟨z, us, 0, r, Heap.get?_push_size _ rfl⟩
end
noncomputable abbrev Sp := List V → Hp → VK → XK → Prop
noncomputable abbrev CXT := List Env → Hp → Shared → XK → Value → Shared → Prop
structure Env0 (P : Program) (w : World) (K : PySem.W.Frag) (mg : Str → Option Value) (base : Heap) (A : Around) (outer : List Env) (s : Shared) (H : Hp) : Prop where
 frames : A.frames = some outer
 mod : Mod K mg base
 bs : ∀ b o, base.get? b = some o → s.heap.get? b = some o ∧ H b = none
 bsz : base.objs.size ≤ s.heap.objs.size
 funs : s.heap.FunFrames base outer
 frf : ∀ b ∈ frs outer, H b = none
 hok : HOk P w H s.heap
 bare : AllBare s.gens
noncomputable def CE (outer : List Env) (P : Program) (w : World) (H : Hp) (s : Shared) (Q : VK) (u : Value) (s' : Shared) : Prop :=
 ∃ v H', s'.os = s.os ∧ AllBare s'.gens ∧ Un (frs outer) [] H H' s.heap s'.heap ∧ HOk P w H' s'.heap ∧ RelV v u ∧ Q v H'
noncomputable def CR (CX : CXT) (outer : List Env) (P : Program) (w : World) (H : Hp) (s : Shared) (Q : VK) (E : XK) (r : Result) (s' : Shared) : Prop :=
 match r with
 | .ok (.ret u) => CE outer P w H s Q u s'
 | .ok _ => False
 | .error e => CX outer H s E e s'
structure FnOk (P : Program) (w : World) (K : PySem.W.Frag) (mg : Str → Option Value) (base : Heap) (CX : CXT) (k : Nat) (f : Addr) (fd : FuncData) (ps : List Str) (sp : Sp) : Prop where
 len : ∀ vs H Q E, sp vs H Q E → vs.length = ps.length
 run : ∀ (A : Around) (outer : List Env) (s : Shared) (H : Hp) (args : Args) (us : List Value) (vs : List V) (Q : VK) (E : XK), Room k A → Env0 P w K mg base A outer s H → BindsTo s fd args (ps.zip us) → Vals vs us → sp vs H Q E →
  codeAny (model P w) A (.call (.ref f) args) (CR CX outer P w H s Q E) s
theorem FnOk.mono {P : Program} {w : World} {K : PySem.W.Frag} {mg : Str → Option Value} {base : Heap} {CX : CXT} {j k : Nat} {f : Addr} {fd : FuncData} {ps : List Str} {sp : Sp} (F : FnOk P w K mg base CX j f fd ps sp) (h : j ≤ k) :
  FnOk P w K mg base CX k f fd ps sp := ⟨F.len, fun A outer s H args us vs Q E hr => F.run A outer s H args us vs Q E (hr.mono h)⟩
theorem FnOk.imp {P : Program} {w : World} {K : PySem.W.Frag} {mg : Str → Option Value} {base : Heap} {CX : CXT} {k : Nat} {f : Addr} {fd : FuncData} {ps : List Str} {sp sp' : Sp} (F : FnOk P w K mg base CX k f fd ps sp)
  (h : ∀ vs H Q E, sp' vs H Q E → sp vs H Q E) : FnOk P w K mg base CX k f fd ps sp' :=
 ⟨fun vs H Q E q => F.len vs H Q E (h _ _ _ _ q), fun A outer s H args us vs Q E hr he hb hv hs => F.run A outer s H args us vs Q E hr he hb hv (h _ _ _ _ hs)⟩
theorem Env0.in1 {P : Program} {w : World} {K : PySem.W.Frag} {mg : Str → Option Value} {base : Heap} {A : Around} {outer : List Env} {s : Shared} {H : Hp} (e : Env0 P w K mg base A outer s H) :
  Env0 P w K mg base A.in1 outer s H := ⟨e.frames, e.mod, e.bs, e.bsz, e.funs, e.frf, e.hok, e.bare⟩
section
variable {X : Cx} {pins : List (Addr × Obj)} {σ : St} {H : Hp} {s s' : Shared}
theorem Inv.env0 (I : Inv X pins σ H s) : Env0 X.prog X.w X.K X.mg X.base X.A X.stack s H :=
 ⟨I.ok.frames, I.ok.mod, I.bs, Nat.le_trans I.ok.bsz I.sz, I.stack, I.stkFree, I.hok, I.bare⟩
theorem Inv.after {Q : VK} {u : Value} (I : Inv X pins σ H s) (h : CE X.stack X.prog X.w H s Q u s') : EP X pins σ Q u s' := by
 obtain ⟨v, H', os, bare, un, hok, r, q⟩ := h
 obtain ⟨hh, g, d, t, os'⟩ := s'
 obtain rfl : os' = s.os := os
 exact ⟨v, H', I.call (h' := hh) (g' := g) (d' := d) (t' := t) (ch := []) un hok bare (fun b z => absurd z (by simp)), r, q⟩
end
noncomputable def tCall (sp : Sp) (dvs : List V) (E : XK) (t : TA) : TE := fun σ H Q => t σ H fun vs H1 => sp (vs ++ dvs) H1 Q E
noncomputable def Binds (K : PySem.W.Frag) (fd : FuncData) (ps : List Str) (ds : List Value) : Prop :=
 ∀ (s : Shared) (us : List Value), K.In s.heap → (us ++ ds).length = ps.length → BindsTo s fd ⟨us, []⟩ (ps.zip (us ++ ds))
theorem Binds.all {K : PySem.W.Frag} {fd : FuncData} {ps : List Str} (h : ∀ us : List Value, us.length = ps.length → bindArgs fd ⟨us, []⟩ = pure (ps.zip us)) : Binds K fd ps [] := fun s us _ hl => by
 rw [List.append_nil] at hl ⊢
 exact .of_eq (h us hl)
noncomputable def Passes (CX : CXT) (X : Cx) (E : XK) : Prop := ∀ (pins : List (Addr × Obj)) (σ : St) (H : Hp) (s : Shared) (e : Value) (s' : Shared), Inv X pins σ H s → CX X.stack H s E e s' → X.xe e s'
section
variable {X : Cx} {CX : CXT} {k : Nat} {f C : Addr} {fd : FuncData} {ps : List Str} {sp : Sp} {dvs : List V} {ds : List Value} {E : XK} {x m : Str} {p pos apos : Pos} {e o : Expr} {es : List Expr} {ta : TE} {t : TA}
theorem run_fn {pins : List (Addr × Obj)} {σ : St} {H : Hp} {s : Shared} {Q : VK} {us : List Value} {vs : List V} (F : FnOk X.prog X.w X.K X.mg X.base CX k f fd ps sp) (hr : Room k X.A) (hb : Binds X.K fd ps ds) (hd : Vals dvs ds) (hx : Passes CX X E)
  (I : Inv X pins σ H s) (r : Vals vs us) (h : sp (vs ++ dvs) H Q E) : wpAny (model X.prog X.w) X.A (call (.ref f) us) (EP X pins σ Q) X.xe s := by
 have r2 : Vals (vs ++ dvs) (us ++ ds) := r.append hd
 have hl : (us ++ ds).length = ps.length := by rw [← r2.length]; exact F.len _ _ _ _ h
 refine wpAny_call (codeAny_mono (F.run X.A X.stack s H ⟨us, []⟩ (us ++ ds) (vs ++ dvs) Q E hr I.env0 (hb s us I.kIn hl) r2 h) fun r s' hq => ?_)
 cases r with
 | error e => exact hx pins σ H s e s' I hq
 | ok fl =>
  cases fl with
  | ret u => exact I.after hq
  | next => exact False.elim hq
  | brk => exact False.elim hq
  | cont => exact False.elim hq
theorem pe_call (F : FnOk X.prog X.w X.K X.mg X.base CX k f fd ps sp) (hr : Room k X.A) (hg : Gl X x) (hm : X.mg x = some (.ref f)) (hk : PySem.W.keepIn X.K (.ref f) = true) (hb : Binds X.K fd ps ds) (hd : Vals dvs ds) (hx : Passes CX X E)
  (ha : PA X (e :: es) t) (hdb : (x == ("__debug__" : Str)) = false := by decide) (he : starEach (e :: es) X.env = (false, eval e X.env) :: starEach es X.env := by rfl) (hpl : (backTo pos (starEach es X.env)).any (·.1) = false := by rfl) :
  PE X (.Call (.Name x p) (e :: es) [] pos) (tCall sp dvs E t) := by
 intro pins s σ H Q I h
 refine wpAny_Call_Name_kw (ld_glob I hg hm ?_ hdb)
 refine PySem.W.callWith_K (h₀ := X.base) I.ok.mod.kin hk (thn (ha pos pins s σ H _ I h) fun us s1 ⟨vs, H1, I1, r, q⟩ => ⟨I1.kIn, ?_⟩) he hpl
 exact run_fn F hr hb hd hx I1 r q
end
structure FnScope (N P : List Str) (sc : Scope) : Prop where
 kind : sc.kind = .function
 co : sc.isCoroutine = false
 gen : sc.isGenerator = false
 nd : N.Nodup
 pre : N.take P.length = P
 par : ∀ x ∈ P, sc.names.lookup x = some .local ∨ sc.names.lookup x = some .cell
 nofree : ∀ y ∈ sc.names, y.2 ≠ .free
theorem bindL_out {kindOf : Str → Option NameKind} {x : Str} : ∀ {binds : List (Str × Value)} {m : Str → Option Value}, (∀ v, (x, v) ∉ binds) → bindL kindOf binds m x = m x
 | [], _, _ => rfl
 | (n, v) :: r, m, h => by
  unfold bindL
  rw [bindL_out fun w hw => h w (List.mem_cons_of_mem _ hw)]
  split
  ·have : x ≠ n := by rintro rfl; exact h v List.mem_cons_self
   simp [this]
  ·rfl
theorem bindC_out {kindOf : Str → Option NameKind} {x : Str} : ∀ {binds : List (Str × Value)} {m : Str → Option Value}, (∀ v, (x, v) ∉ binds) → bindC kindOf binds m x = m x
 | [], _, _ => rfl
 | (n, v) :: r, m, h => by
  unfold bindC
  rw [bindC_out fun w hw => h w (List.mem_cons_of_mem _ hw)]
  split
  ·rfl
  ·have : x ≠ n := by rintro rfl; exact h v List.mem_cons_self
   simp [this]
theorem bindL_get {kindOf : Str → Option NameKind} {x : Str} {v : Value} : ∀ {P : List Str} {vs : List Value} {i : Nat} {m : Str → Option Value}, P.Nodup → P[i]? = some x → vs[i]? = some v → kindOf x = some .local →
  bindL kindOf (P.zip vs) m x = some v
 | [], _, _, _, _, h, _, _ => by simp at h
 | _ :: _, [], _, _, _, _, h, _ => by simp at h
 | p :: P, w :: vs, 0, m, nd, h1, h2, hk => by
  simp at h1 h2; subst h1; subst h2
  show bindL kindOf ((p, w) :: P.zip vs) m p = _
  unfold bindL
  rw [bindL_out fun v hv => (List.nodup_cons.mp nd).1 (List.of_mem_zip hv).1, if_pos hk]
  simp
 | p :: P, w :: vs, i + 1, m, nd, h1, h2, hk => by
  show bindL kindOf ((p, w) :: P.zip vs) m x = _
  unfold bindL
  exact bindL_get (i := i) (List.nodup_cons.mp nd).2 (by simpa using h1) (by simpa using h2) hk
theorem bindC_get {kindOf : Str → Option NameKind} {x : Str} {v : Value} : ∀ {P : List Str} {vs : List Value} {i : Nat} {m : Str → Option Value}, P.Nodup → P[i]? = some x → vs[i]? = some v → kindOf x ≠ some .local →
  bindC kindOf (P.zip vs) m x = some v
 | [], _, _, _, _, h, _, _ => by simp at h
 | _ :: _, [], _, _, _, _, h, _ => by simp at h
 | p :: P, w :: vs, 0, m, nd, h1, h2, hk => by
  simp at h1 h2; subst h1; subst h2
  show bindC kindOf ((p, w) :: P.zip vs) m p = _
  unfold bindC
  rw [bindC_out fun v hv => (List.nodup_cons.mp nd).1 (List.of_mem_zip hv).1, if_neg hk]
  simp
 | p :: P, w :: vs, i + 1, m, nd, h1, h2, hk => by
  show bindC kindOf ((p, w) :: P.zip vs) m x = _
  unfold bindC
  exact bindC_get (i := i) (List.nodup_cons.mp nd).2 (by simpa using h1) (by simpa using h2) hk
noncomputable def start (N : List Str) (vs : List V) : St := vs.map some ++ List.replicate (N.length - vs.length) none
noncomputable def cxOf (CX : CXT) (P : Program) (w : World) (K : PySem.W.Frag) (mg : Str → Option Value) (base : Heap) (N : List Str) (qual : Str) (scope : Scope) (f : Addr) (cd : Value) (A : Around) (outer : List Env) (s : Shared) (H : Hp) (E : XK) : Cx where
 prog := P
 w := w
 K := K
 mg := mg
 base := base
 A := A.deeper (envOfC qual scope s.heap.objs.size f cd)
 N := N
 s₀ := s
 H₀ := H
 env := envOfC qual scope s.heap.objs.size f cd
 outer := outer
 stack := envOfC qual scope s.heap.objs.size f cd :: outer
 ex := []
 calm := true
 fn := fun _ => true
 pn := []
 xe := fun e s' => wpAny (model P w) (A.deeper (envOfC qual scope s.heap.objs.size f cd)) (leaving (envOfC qual scope s.heap.objs.size f cd) e) (fun _ s'' => CX outer H s E e s'') (fun e' s'' => CX outer H s E e' s'') s'
theorem cell_has {sc : Scope} {n : Nat} {x : Str} (h : sc.names.lookup x = some .cell) : ∃ c, (cellsFrom n sc.names []).lookup x = some c := by
 have q := PySem.W.cellsFrom_some sc.names n [] (.inl h)
 exact Option.isSome_iff_exists.mp q
theorem inv_start {CX : CXT} {P : Program} {w : World} {K : PySem.W.Frag} {mg : Str → Option Value} {base : Heap} {N ps : List Str} {qual : Str} {scope : Scope} {f : Addr} {cd : Value} {A : Around} {outer : List Env} {s s1 : Shared} {H : Hp} {E : XK} {us : List Value} {vs : List V}
  (S : FnScope N ps scope) (hd : A.handled = none) (e0 : Env0 P w K mg base A outer s H) (hl : vs.length = ps.length) (r : Vals vs us)
  (x : InCallC s s.heap.objs.size (bindL (envOfC qual scope s.heap.objs.size f cd).kindOf (ps.zip us) fun _ => none) (cellsFrom (s.heap.objs.size + 1) scope.names []) (bindC (envOfC qual scope s.heap.objs.size f cd).kindOf (ps.zip us) fun _ => none) s1) :
  Inv (cxOf CX P w K mg base N qual scope f cd A outer s H E) [] (start N vs) H s1 := by
 have hpl : ps.length ≤ N.length := by have := congrArg List.length S.pre; rw [List.length_take] at this; omega
 obtain ⟨h1, tk, rfl, hk⟩ := x.done
 have noA : ∀ b : Addr, b ∉ (cxOf CX P w K mg base N qual scope f cd A outer s H E).ex := fun b z => absurd (show b ∈ ([] : List Addr) from z) (by simp)
 refine ⟨⟨e0.mod, S.kind, rfl, rfl, Nat.le_refl _, fun y z c h1 h2 => ?_, fun y hy => ?_, fun y c _ h => ?_, fun _ => hd, Around.frames_deeper e0.frames, .inr ⟨rfl, rfl⟩, fun b z => absurd z (noA b), e0.bs, e0.bsz, fun b _ _ => noA b, fun b z => absurd z (noA b), e0.funs, e0.frf⟩,
  rfl, e0.bare, Un.kept hk, ⟨_, x.toInCall.ns, fun i y v h1 h2 h3 => ?_⟩, fun y c h => ⟨_, x.cell y c h⟩, e0.hok.fresh (Nat.le_refl _), fun y c h => ?_, fun p hp => absurd (show p ∈ ([] : List (Addr × Obj)) from hp) (by simp), e0.hok.kept hk, ?_⟩
 ·exact name_of_addr x.apart (PySem.mem_of_lookup h1) (PySem.mem_of_lookup h2)
 ·have hy : scope.names.lookup y = some .cell ∨ scope.names.lookup y = some .free := hy
  rcases hy with hy | hy
  ·exact cell_has hy
  ·exact absurd rfl (S.nofree _ (PySem.mem_of_lookup hy))
 ·exact Nat.le_of_lt (x.above y c (PySem.mem_of_lookup h))
 ·have hi : i < vs.length := by
   unfold start at h2
   by_cases hi : i < vs.length
   ·exact hi
   ·rw [List.getElem?_append_right (by simpa using hi)] at h2
    rw [List.getElem?_replicate] at h2
    split at h2 <;> cases h2
  have ha : vs[i]? = some v := by
   unfold start at h2
   rw [List.getElem?_append_left (by simpa using hi), List.getElem?_map] at h2
   cases e : vs[i]? with
   | none => rw [e] at h2; cases h2
   | some a => rw [e] at h2; cases h2; rfl
  obtain ⟨u, hu, rv⟩ := r.get ha
  have hp : ps[i]? = some y := by
   rw [← S.pre, List.getElem?_take_of_lt (by omega)]; exact h1
  have ndP : ps.Nodup := by rw [← S.pre]; exact S.nd.sublist (List.take_sublist _ _)
  refine ⟨u, rv, ?_⟩
  rcases S.par y (List.mem_of_getElem? hp) with k | k
  ·exact .inl ⟨k, bindL_get ndP hp hu k⟩
  ·obtain ⟨c, e⟩ := cell_has (n := s.heap.objs.size + 1) k
   refine .inr ⟨.inl k, c, e, ?_⟩
   have q := x.cell y c e
   rw [bindC_get ndP hp hu (by show scope.names.lookup y ≠ _; rw [k]; decide)] at q
   exact q
 ·exact e0.hok.fresh (Nat.le_of_lt (x.above y c (PySem.mem_of_lookup h)))
 ·unfold start
  show _ = N.length
  rw [List.length_append, List.length_map, List.length_replicate]
  omega
theorem fn_of {CX : CXT} {P : Program} {w : World} {K : PySem.W.Frag} {mg : Str → Option Value} {base : Heap} {k : Nat} {f : Addr} {name qual : Str} {params : Arguments} {body : List Stmt} {scope : Scope} {dV kV doc pm cdv ct oc : Value} {an od : Option Addr}
  {osl : Array (Option Value)} {N ps : List Str} {sp : Sp} (lk : K.lookup f = some ⟨oc, od, .func (PySem.W.fnOf name qual params body scope dV kV doc pm an cdv ct), osl⟩) (hcd : PySem.W.codeIn K cdv qual = true) (S : FnScope N ps scope)
  (len : ∀ vs H Q E, sp vs H Q E → vs.length = ps.length)
  (hbody : ∀ (A : Around) (outer : List Env) (s : Shared) (H : Hp) (vs : List V) (Q : VK) (E : XK), Room k (A.deeper (envOfC qual scope s.heap.objs.size f cdv)) → sp vs H Q E →
   ∃ t, PSs (cxOf CX P w K mg base N qual scope f cdv A outer s H E) body t ∧ t { nx := fun _ H' => Q .non H', rt := Q } (start N vs) H) :
  FnOk P w K mg base CX (k + 1) f (PySem.W.fnOf name qual params body scope dV kV doc pm an cdv ct) ps sp := by
 refine ⟨len, fun A outer s H args us vs Q E hr e0 hb r hsp => ?_⟩
 have hl := len _ _ _ _ hsp
 have KX : K.In s.heap := e0.mod.kin.keeps fun b o e => (e0.bs b o e).1
 have lim : s.heap.NoLimit := e0.mod.nolimit.keeps fun b o e => (e0.bs b o e).1
 have hkind : ∀ y ∈ ps.zip us, scope.names.lookup y.1 = some .local ∨ (scope.names.lookup y.1 = some .cell ∧ ((cellsFrom (s.heap.objs.size + 1) scope.names []).lookup y.1).isSome = true) := fun ⟨n, v⟩ hy => by
  rcases S.par n (List.of_mem_zip hy).1 with q | q
  ·exact .inl q
  ·exact .inr ⟨q, PySem.W.cellsFrom_some _ _ _ (.inl q)⟩
 refine codeAny_call_function hr.depth (KX _ _ lk) rfl S.co S.gen rfl (PySem.W.codeRec_of KX hcd) (hb _ _ _ _ ?_)
 refine wpAny_newFunctionEnv_cells S.kind hkind fun env he s1 x => ?_
 subst he
 refine ⟨lim.keeps x.toInCall.keep, codeAny_func ?_⟩
 obtain ⟨t, ht, hq⟩ := hbody A outer s H vs Q E (hr.deeper _) hsp
 have I : Inv (cxOf CX P w K mg base N qual scope f cdv A outer s H E) [] (start N vs) H s1 := inv_start S hr.hd e0 hl r x
 refine wpAny_mono (ht [] s1 (start N vs) H _ I hq) (fun fl s' hs => ?_) fun e s' hs => hs
 have fin : ∀ {σ' : St} {H' : Hp} {v : V} {u : Value}, Inv (cxOf CX P w K mg base N qual scope f cdv A outer s H E) [] σ' H' s' → RelV v u → Q v H' → CE outer P w H s Q u s' :=
  fun {σ' H' v u} J rv q => ⟨v, H', J.os, J.bare, J.base, J.hok, rv, q⟩
 cases fl with
 | ret u =>
  obtain ⟨v, σ', H', J, rv, q⟩ := hs
  exact fin J rv q
 | next =>
  obtain ⟨σ', H', J, q⟩ := hs
  exact fin (v := V.non) (u := Value.none) J rfl q
 | brk =>
  obtain ⟨_, _, _, q⟩ := hs
  exact False.elim q
 | cont =>
  obtain ⟨_, _, _, q⟩ := hs
  exact False.elim q
end L2
namespace L2
open PySem PySem.Spec PyProof.Rows
section
variable {X : Cx} {x : Str} {p pos : Pos} {e : Expr} {es : List Expr} {t : TA} {id T : String} {r : List V → Hp → VK → Prop}
noncomputable def tCB (r : List V → Hp → VK → Prop) (t : TA) : TE := fun σ H Q => t σ H fun vs H1 => r vs H1 Q
theorem pe_callB (hc : CallR X (.builtin id) r) (hg : Gl X x) (hm : X.mg x = none) (hv : bootBuiltins x = some (.builtin id)) (ha : PA X (e :: es) t) (hn : x ≠ "__name__" := by decide) (hdb : (x == ("__debug__" : Str)) = false := by decide)
  (he : starEach (e :: es) X.env = (false, eval e X.env) :: starEach es X.env := by rfl) (hpl : (backTo pos (starEach es X.env)).any (·.1) = false := by rfl) : PE X (.Call (.Name x p) (e :: es) [] pos) (tCB r t) := by
 intro pins s σ H Q I h
 refine wpAny_Call_Name_kw (ld_blt I hg hm hv ?_ hn hdb)
 exact PyProof.Rows.callWith_builtin1 (thn (ha pos pins s σ H _ I h) fun us s1 ⟨vs, H1, I1, r1, q1⟩ => hc pins s1 σ H1 vs us Q I1 r1 q1) he hpl
theorem pe_callTy (hc : CallR X (.type T) r) (hg : Gl X x) (hm : X.mg x = none) (hv : bootBuiltins x = some (.type T)) (ha : PA X (e :: es) t) (hn : x ≠ "__name__" := by decide) (hdb : (x == ("__debug__" : Str)) = false := by decide)
  (he : starEach (e :: es) X.env = (false, eval e X.env) :: starEach es X.env := by rfl) (hpl : (backTo pos (starEach es X.env)).any (·.1) = false := by rfl) : PE X (.Call (.Name x p) (e :: es) [] pos) (tCB r t) := by
 intro pins s σ H Q I h
 refine wpAny_Call_Name_kw (ld_blt I hg hm hv ?_ hn hdb)
 exact PyProof.Rows.callWith_type1 (thn (ha pos pins s σ H _ I h) fun us s1 ⟨vs, H1, I1, r1, q1⟩ => hc pins s1 σ H1 vs us Q I1 r1 q1) he hpl
end
end L2
namespace HT
open PySem PyProof.Rows
section
variable {prog : Program} {w : World} {A : Around} {E : Value → Shared → Prop} {s : Shared}
noncomputable def sIx (n d : Nat) : Option Int → Nat
 | none => d
 | some v => if v < 0 then (v + (n : Int)).toNat else min v.toNat n
theorem sIx_none (n d : Nat) : sIx n d none = d := rfl
theorem sIx_nat (n d k : Nat) : sIx n d (some (k : Int)) = min k n := by
 show (if (k : Int) < 0 then ((k : Int) + (n : Int)).toNat else min (k : Int).toNat n) = min k n
 rw [if_neg (by omega), Int.toNat_natCast]
end
end HT
namespace L2
open PySem PySem.Spec PyProof.Rows
noncomputable abbrev TO := St → Hp → (Option Int → Hp → Prop) → Prop
noncomputable def PO (X : Cx) (e : Option Expr) (t : TO) : Prop :=
 ∀ (pins : List (Addr × Obj)) (s : Shared) (σ : St) (H : Hp) (Q : Option Int → Hp → Prop), Inv X pins σ H s → t σ H Q →
  wpAny (model X.prog X.w) X.A (evalPart e X.env) (fun u s' => ∃ o H', Inv X pins σ H' s' ∧ IsPart u o ∧ Q o H') X.xe s
noncomputable def tNoPart : TO := fun _ H Q => Q none H
noncomputable def tPart (t : TE) : TO := fun σ H Q => t σ H fun x H1 => ∃ i, x = .int i ∧ Q (some i) H1
section
variable {X : Cx} {e : Expr} {te : TE} {lo hi : Option Expr} {tl th : TO} {pos p2 : Pos}
theorem po_none : PO X none tNoPart := by
 intro pins s σ H Q I h
 rw [evalPart_none]
 exact wpAny_pure ⟨none, H, I, .none, h⟩
theorem po_some (h : PE X e te) : PO X (some e) (tPart te) := by
 intro pins s σ H Q I hw
 rw [evalPart_some]
 refine thn (h pins s σ H _ I hw) fun u s1 ⟨x, H1, I1, r1, q1⟩ => ?_
 obtain ⟨i, rfl, q⟩ := q1
 obtain ⟨t, rfl⟩ := r1
 exact ⟨some i, H1, I1, .int i t, q⟩
noncomputable def SlR (X : Cx) (r : V → Option Int → Option Int → Hp → VK → Prop) : Prop :=
 ∀ (pins : List (Addr × Obj)) (s : Shared) (σ : St) (H : Hp) (x : V) (v vl vu : Value) (lo hi : Option Int) (sl : Addr) (Q : VK), Inv X pins σ H s → RelV x v → s.heap.IsSliceOf sl vl vu .none → IsPart vl lo → IsPart vu hi → r x lo hi H Q →
  ∃ T id, typeLookup (.type T) "__getitem__" = pure (some (.builtin id)) ∧ s.TypeIs v T ∧ wpAny (model X.prog X.w) X.A (getItem v (.ref sl)) (EP X pins σ Q) X.xe s
noncomputable def tSl (r : V → Option Int → Option Int → Hp → VK → Prop) (te : TE) (tl th : TO) : TE := fun σ H Q => te σ H fun x H1 => tl σ H1 fun l H2 => th σ H2 fun u H3 => r x l u H3 Q
theorem pe_slice {r : V → Option Int → Option Int → Hp → VK → Prop} (hr : SlR X r) (he : PE X e te) (hl : PO X lo tl) (hu : PO X hi th) : PE X (.Subscript e (.Slice lo hi none p2) pos) (tSl r te tl th) := by
 intro pins s σ H Q I h
 refine Subscript_ (thn (he pins s σ H _ I h) fun v s1 ⟨x, H1, I1, r1, q1⟩ => ?_)
 refine wpAny_Slice (thn (hl pins s1 σ H1 _ I1 q1) fun vl s2 ⟨l, H2, I2, pl, q2⟩ => thn (hu pins s2 σ H2 _ I2 q2) fun vu s3 ⟨u, H3, I3, pu, q3⟩ => ?_)
 rw [evalPart_none]
 refine wpAny_pure ?_
 have I4 : Inv X pins σ H3 { s3 with heap := s3.heap.push { cls := .type "slice", data := .fields #[vl, vu, .none] } } := I3.kept (t' := s3.toks) fun b ob q => Heap.get?_push_of_some _ q
 obtain ⟨T, id, hT, ht, hg⟩ := hr pins { s3 with heap := s3.heap.push { cls := .type "slice", data := .fields #[vl, vu, .none] } } σ H3 x v vl vu l u s3.heap.objs.size Q I4 r1 (Heap.IsSliceOf.new ..) pl pu q3
 show wpAny (model X.prog X.w) X.A (subscriptTail e (.Slice lo hi none p2) v (.ref s3.heap.objs.size)) (EP X pins σ Q) X.xe { s3 with heap := s3.heap.push { cls := .type "slice", data := .fields #[vl, vu, .none] } }
 exact tail_any (ops := [.ref s3.heap.objs.size, v]) ht hT hg (by with_unfolding_all rfl)
noncomputable def cutV (xs : List V) (lo hi : Option Int) : List V := (xs.drop (HT.sIx xs.length 0 lo)).take (HT.sIx xs.length xs.length hi - HT.sIx xs.length 0 lo)
theorem cutV_length (xs : List V) (lo hi : Option Int) : (cutV xs lo hi).length ≤ xs.length := by
 unfold cutV
 rw [List.length_take, List.length_drop]
 omega
end
end L2
namespace L2
open PySem PySem.Spec PyProof.Rows
noncomputable def ixN (n : Nat) (i : Int) : Option Nat := if 0 ≤ i then (if i < n then some i.toNat else none) else if -(n : Int) ≤ i then some (i + n).toNat else none
noncomputable def atI {α : Type} (xs : List α) (i : Int) : Option α := (ixN xs.length i).bind fun j => xs[j]?
theorem ixN_seq {n : Nat} {i : Int} {j : Nat} (h : ixN n i = some j) : seqIndex? i n = some j ∧ j < n ∧ -(n : Int) ≤ i ∧ i < n := by
 unfold ixN at h
 by_cases h0 : 0 ≤ i
 ·rw [if_pos h0] at h
  by_cases h1 : i < n
  ·rw [if_pos h1] at h
   have e : i.toNat = j := Option.some.inj h
   exact ⟨by rw [seqIndex_of h0 h1, e], by omega, by omega, h1⟩
  ·rw [if_neg h1] at h; cases h
 ·rw [if_neg h0] at h
  by_cases h1 : -(n : Int) ≤ i
  ·rw [if_pos h1] at h
   have e : (i + n).toNat = j := Option.some.inj h
   exact ⟨by rw [seqIndex_neg (by omega) h1, e], by omega, h1, by omega⟩
  ·rw [if_neg h1] at h; cases h
theorem atI_get {α : Type} {xs : List α} {i : Int} {v : α} (h : atI xs i = some v) : ∃ j, seqIndex? i xs.length = some j ∧ xs[j]? = some v ∧ j < xs.length ∧ -(xs.length : Int) ≤ i ∧ i < xs.length := by
 unfold atI at h
 cases e : ixN xs.length i with
 | none => rw [e] at h; cases h
 | some j =>
  rw [e] at h
  obtain ⟨h1, h2, h3, h4⟩ := ixN_seq e
  exact ⟨j, h1, h, h2, h3, h4⟩
theorem atI_nat {α : Type} {xs : List α} {j : Nat} {v : α} (h : xs[j]? = some v) : atI xs (j : Int) = some v := by
 have hj : j < xs.length := (List.getElem?_eq_some_iff.mp h).1
 have e : ixN xs.length (j : Int) = some j := by
  unfold ixN
  rw [if_pos (by omega), if_pos (by omega)]; simp
 unfold atI; rw [e]; exact h
noncomputable def PlainIx (b : Expr) : Prop := ∀ o i, subscripted b false o i = operate [o, i] (getItem o i)
noncomputable def IxR (X : Cx) (r : R2) : Prop :=
 ∀ (value slice : Expr) (pins : List (Addr × Obj)) (s : Shared) (σ : St) (H : Hp) (x y : V) (v u : Value) (Q : VK), Inv X pins σ H s → RelV x v → RelV y u → r x y H Q →
  subscripted slice false v u = operate [v, u] (getItem v u) → wpAny (model X.prog X.w) X.A (subscriptTail value slice v u) (EP X pins σ Q) X.xe s
noncomputable def MtR (X : Cx) (id : String) (r : V → List V → Hp → VK → Prop) : Prop :=
 ∀ (pins : List (Addr × Obj)) (s : Shared) (σ : St) (H : Hp) (x : V) (xs : List V) (v : Value) (us : List Value) (Q : VK), Inv X pins σ H s → RelV x v → Vals xs us → r x xs H Q →
  wpAny (model X.prog X.w) X.A (call (.builtin id) (v :: us)) (EP X pins σ Q) X.xe s
section
variable {X : Cx} {a b : Expr} {ta tb : TE} {pos : Pos}
theorem pe_ix {r : R2} (hr : IxR X r) (ha : PE X a ta) (hb : PE X b tb) (hs : PlainIx b) : PE X (.Subscript a b pos) (tOp r ta tb) := by
 intro pins s σ H Q I h
 exact Subscript_ (binT ha hb I h fun v u s2 x y H2 I2 rx ry q => hr a b pins s2 σ H2 x y v u Q I2 rx ry q (hs _ _))
noncomputable def rIxL (K : PySem.W.Frag) : R2 := fun x y H Q => ∃ p xs i v, x = .ref p ∧ y = .int i ∧ SqL K H p xs ∧ atI xs i = some v ∧ Q v H
noncomputable def rIxT (K : PySem.W.Frag) : R2 := fun x y H Q => ∃ p xs i v, x = .ref p ∧ y = .int i ∧ SqT K H p xs ∧ atI xs i = some v ∧ Q v H
theorem ix_list : IxR X (rIxL X.K) := by
 intro value slice pins s σ H x y v u Q I rx ry h hs
 obtain ⟨p, xs, i, z, rfl, rfl, hq, he, q⟩ := h
 cases rx
 obtain ⟨t, rfl⟩ := ry
 obtain ⟨its, r, pl, hz⟩ := I.list hq
 obtain ⟨j, h1, h2, h3, h4, h5⟩ := atI_get he
 obtain ⟨w, ew, rw'⟩ := r.get h2
 have hl := r.length
 have hn := line63
 have fin : EP X pins σ Q w s := ⟨z, H, I, rw', q⟩
 by_cases h0 : 0 ≤ i
 ·have hj : i.toNat = j := by
   rw [seqIndex_of h0 h5] at h1
   exact Option.some.inj h1
  exact item_listR pl.isList h0 (by omega) (by rw [hj]; simpa using ew) fin hs
 ·have hj : (i + (its.toArray.size : Int)).toNat = j := by
   rw [seqIndex_neg (by omega) h4] at h1
   rw [List.size_toArray, ← hl]
   exact Option.some.inj h1
  exact subscriptTail_builtinR (x := w) pl.isList.typeIs slot_list_getitem.lookup
   (wpAny_getItem_list_neg (Q := fun r s' => r = w ∧ EP X pins σ Q r s') pl.isList (by omega) (by rw [List.size_toArray] <;> omega) (by omega) (by rw [hj]; simpa using ew) ⟨rfl, fin⟩) hs
theorem ix_tup : IxR X (rIxT X.K) := by
 intro value slice pins s σ H x y v u Q I rx ry h hs
 obtain ⟨p, xs, i, z, rfl, rfl, hq, he, q⟩ := h
 cases rx
 obtain ⟨t, rfl⟩ := ry
 obtain ⟨its, r, pl, hz⟩ := I.tuple hq
 obtain ⟨j, h1, h2, h3, h4, h5⟩ := atI_get he
 obtain ⟨w, ew, rw'⟩ := r.get h2
 have hl := r.length
 have hn := line63
 have fin : EP X pins σ Q w s := ⟨z, H, I, rw', q⟩
 exact subscriptTail_builtinR (x := w) pl.typeIs slot_tuple_getitem.lookup
  (getItem_tuple (j := j) (Q := fun r s' => r = w ∧ EP X pins σ Q r s') pl (by omega) (by omega) (by rw [List.size_toArray, ← hl]; exact h1) (by simpa using ew) ⟨rfl, fin⟩) hs
theorem mapSeq_set (its : List Value) (n j : Nat) (u : Value) : Obj.mapSeq (·.setIfInBounds j u) { cls := .type "list", data := .seq its.toArray n } = { cls := .type "list", data := .seq (its.set j u).toArray n } := by
 simp [Obj.mapSeq]
theorem Inv.lst {pins : List (Addr × Obj)} {σ : St} {H : Hp} {s : Shared} {p : Addr} {xs : List V} (I : Inv X pins σ H s) (h : H p = some (.lst xs)) :
  ∃ (its : List Value) (n : Nat), Vals xs its ∧ s.heap.get? p = some { cls := .type "list", data := .seq its.toArray n } ∧ xs.length ≤ sizeLine := by
 obtain ⟨z, its, n, r, e⟩ := I.hok p _ h
 exact ⟨its, n, r, e, z⟩
theorem Inv.lstUpd {pins : List (Addr × Obj)} {σ : St} {H : Hp} {s : Shared} {p : Addr} {xs ys : List V} {its its' : List Value} {n n' : Nat} {f : Obj → Obj} (I : Inv X pins σ H s) (h : H p = some (.lst xs))
  (ho : s.heap.get? p = some { cls := .type "list", data := .seq its.toArray n }) (hf : f { cls := .type "list", data := .seq its.toArray n } = { cls := .type "list", data := .seq its'.toArray n' }) (r : Vals ys its') (hz : ys.length ≤ sizeLine) (t : Nat) :
  Inv X pins σ (upd H p (.lst ys)) { s with heap := s.heap.update p f, toks := t } := by
 have e : (s.heap.update p f).get? p = some { cls := .type "list", data := .seq its'.toArray n' } := by
  rw [Heap.get?_update_self f ho (by rw [hf] <;> rfl), hf]
 refine I.write (x := p) (e := p) (by rw [h]; trivial) (.inl rfl) (fun b u hb q => (Heap.get?_update_other _ _ (Ne.symm hb)).trans q) ⟨_, e⟩ ?_
 exact ⟨hz, its', n', r, e⟩
noncomputable def rSetL : V → V → V → Hp → (Hp → Prop) → Prop := fun o i v H Q => ∃ p xs k j, o = .ref p ∧ i = .int k ∧ H p = some (.lst xs) ∧ ixN xs.length k = some j ∧ Q (upd H p (.lst (xs.set j v)))
theorem set_list : PSet X rSetL := by
 intro pins s σ H o i v ov iv u Q I ro ri rv h
 obtain ⟨p, xs, k, j, rfl, rfl, hp, hj, q⟩ := h
 cases ro
 obtain ⟨t, rfl⟩ := ri
 obtain ⟨its, n, r, ho, hz⟩ := I.lst hp
 obtain ⟨h1, h2, h3, h4⟩ := ixN_seq hj
 have hl := r.length
 have hn := line63
 have I' : Inv X pins σ (upd H p (.lst (xs.set j v))) { s with heap := s.heap.update p (Obj.mapSeq (·.setIfInBounds j u)) } :=
  I.lstUpd hp ho (mapSeq_set its n j u) (r.set rv j) (by rw [List.length_set]; exact hz) s.toks
 by_cases h0 : 0 ≤ k
 ·have hk : k.toNat = j := by
   rw [seqIndex_of h0 h4] at h1
   exact Option.some.inj h1
  exact PySem.W.ki_setAt ho h0 (by omega) (by rw [List.size_toArray, ← hl]; exact h4) (by rw [hk]; exact ⟨_, I', q⟩)
 ·have hk : (k + (its.toArray.size : Int)).toNat = j := by
   rw [seqIndex_neg (by omega) h3] at h1
   rw [List.size_toArray, ← hl]
   exact Option.some.inj h1
  exact PySem.W.ki_setBack ho (by omega) (by rw [List.size_toArray, ← hl]; exact h3) (by omega) (by rw [hk]; exact ⟨_, I', q⟩)
theorem slice_bounds (lo hi : Option Int) (n : Nat) : (sliceBounds lo hi none n).1 = ((HT.sIx n 0 lo : Nat) : Int) ∧ (sliceBounds lo hi none n).2.1 = ((HT.sIx n n hi : Nat) : Int) ∧ (sliceBounds lo hi none n).2.2 = 1 := by
 refine ⟨?_, ?_, rfl⟩
 ·cases lo with
  | none => simp [sliceBounds, HT.sIx]
  | some i =>
   simp only [sliceBounds, HT.sIx, Option.getD_none, show (1 : Int) > 0 by decide, if_true]
   by_cases h : i < 0
   ·simp only [h, if_true] <;> omega
   ·simp only [h, if_false] <;> omega
 ·cases hi with
  | none => simp [sliceBounds, HT.sIx]
  | some i =>
   simp only [sliceBounds, HT.sIx, Option.getD_none, show (1 : Int) > 0 by decide, if_true]
   by_cases h : i < 0
   ·simp only [h, if_true] <;> omega
   ·simp only [h, if_false] <;> omega
theorem slicePick_cut (its : List Value) (lo hi : Option Int) : slicePick its.toArray lo hi none = ((its.drop (HT.sIx its.length 0 lo)).take (HT.sIx its.length its.length hi - HT.sIx its.length 0 lo)).toArray := by
 obtain ⟨h1, h2, h3⟩ := slice_bounds lo hi its.toArray.size
 unfold slicePick
 rw [h1, h2, h3]
 simp only [sliceRange_one, pick_run, List.size_toArray] <;> rfl
noncomputable def rSlL (K : PySem.W.Frag) : V → Option Int → Option Int → Hp → VK → Prop := fun x lo hi H Q => ∃ a xs, x = .ref a ∧ SqL K H a xs ∧ ∀ p, H p = none → Q (.ref p) (upd H p (.lst (cutV xs lo hi)))
theorem sl_list : SlR X (rSlL X.K) := by
 intro pins s σ H x v vl vu lo hi sl Q I rx hs pl pu h
 obtain ⟨a, xs, rfl, hx, q⟩ := h
 cases rx
 obtain ⟨its, r, ht, hz⟩ := I.list hx
 have hlen := r.length
 refine ⟨"list", _, slot_list_getitem.lookup, ht.isList.typeIs, ?_⟩
 refine wpAny_getItem_list_slice ht.isList hs pl pu .none (by simp) ?_ (by rw [List.size_toArray] <;> omega)
 rw [slicePick_cut, ← hlen]
 refine ⟨.ref s.heap.objs.size, _, I.laid (t' := s.toks) (o := .lst (cutV xs lo hi)) (fun b ob q => Heap.get?_push_of_some _ q) (Nat.le_refl _) ?_, rfl, q _ (I.hok.fresh (Nat.le_refl _))⟩
 exact ⟨Nat.le_trans (cutV_length xs lo hi) hz, _, 0, (r.drop (HT.sIx xs.length 0 lo)).take (HT.sIx xs.length xs.length hi - HT.sIx xs.length 0 lo), Heap.get?_push_size _ rfl⟩
noncomputable def flatV : V → Bool
 | .non => true
 | .bl _ => true
 | .int _ => true
 | .str _ => true
 | _ => false
noncomputable def eqV : V → V → Bool
 | .non, .non => true
 | .bl a, .bl b => a == b
 | .bl a, .int b => (if a then 1 else 0) == b
 | .int a, .bl b => a == (if b then 1 else 0)
 | .int a, .int b => a == b
 | .str a, .str b => a == b
 | _, _ => false
theorem eqAt_V {A : Around} {s : Shared} {y x : V} {u v : Value} (ry : RelV y u) (rx : RelV x v) (fy : flatV y = true) (fx : flatV x = true) : SeqAt.EqAt A s u v (eqV y x) := by
 cases y with
 | non =>
  cases ry
  cases x with
  | non => cases rx; exact SeqAt.EqAt.same _
  | bl b => cases rx; exact SeqAt.EqAt.none_bool b
  | int b => obtain ⟨t, rfl⟩ := rx; exact SeqAt.EqAt.none_int b t
  | str b => obtain ⟨t, rfl⟩ := rx; exact SeqAt.EqAt.none_str b t
  | _ => exact absurd (show false = true from fx) Bool.false_ne_true
 | bl a =>
  cases ry
  cases x with
  | non => cases rx; exact SeqAt.EqAt.bool_none a
  | bl b => cases rx; exact SeqAt.EqAt.bool_bool a b
  | int b => obtain ⟨t, rfl⟩ := rx; exact SeqAt.EqAt.bool_int a b t
  | str b => obtain ⟨t, rfl⟩ := rx; exact SeqAt.EqAt.bool_str a b t
  | _ => exact absurd (show false = true from fx) Bool.false_ne_true
 | int a =>
  obtain ⟨t', rfl⟩ := ry
  cases x with
  | non => cases rx; exact SeqAt.EqAt.int_none a t'
  | bl b => cases rx; exact SeqAt.EqAt.int_bool a t' b
  | int b => obtain ⟨t, rfl⟩ := rx; exact SeqAt.EqAt.int_int a t' b t
  | str b => obtain ⟨t, rfl⟩ := rx; exact SeqAt.EqAt.int_str a t' b t
  | _ => exact absurd (show false = true from fx) Bool.false_ne_true
 | str a =>
  obtain ⟨t', rfl⟩ := ry
  cases x with
  | non => cases rx; exact SeqAt.EqAt.str_none a t'
  | bl b => cases rx; exact SeqAt.EqAt.str_bool a t' b
  | int b => obtain ⟨t, rfl⟩ := rx; exact SeqAt.EqAt.str_int a t' b t
  | str b => obtain ⟨t, rfl⟩ := rx; exact SeqAt.EqAt.str_str a t' b t
  | _ => exact absurd (show false = true from fx) Bool.false_ne_true
 | _ => exact absurd (show false = true from fy) Bool.false_ne_true
theorem call_len_seq : CallR X (.builtin "len") (fun xs H Q => ∃ p ys, xs = [.ref p] ∧ (SqL X.K H p ys ∨ SqT X.K H p ys) ∧ Q (.int ys.length) H) := by
 intro pins s σ H xs us Q I r h
 obtain ⟨p, ys, rfl, hq, q⟩ := h
 obtain ⟨u, rfl, rx⟩ := vals1 r
 cases rx
 have hn := line63
 rcases hq with hq | hq
 ·obtain ⟨its, r', pl, hz⟩ := I.list hq
  have hlen := r'.length
  exact Calls.call_len_list pl.isList (by simp only [List.size_toArray] <;> omega) ⟨.int ys.length, H, I.tok _, ⟨s.toks + 1, by rw [List.size_toArray, hlen]⟩, q⟩
 ·obtain ⟨its, r', pl, hz⟩ := I.tuple hq
  have hlen := r'.length
  exact len_tuple pl (by simp only [List.size_toArray] <;> omega) ⟨.int ys.length, H, I.tok _, ⟨s.toks + 1, by rw [List.size_toArray, hlen]⟩, q⟩
theorem call_list_of : CallR X (.type "list") (fun xs H Q => ∃ p ys, xs = [.ref p] ∧ (SqL X.K H p ys ∨ SqT X.K H p ys) ∧ ∀ l, H l = none → Q (.ref l) (upd H l (.lst ys))) := by
 intro pins s σ H xs us Q I r h
 obtain ⟨p, ys, rfl, hq, q⟩ := h
 obtain ⟨u, rfl, rx⟩ := vals1 r
 cases rx
 have fin : ∀ (its : List Value), Vals ys its → ys.length ≤ sizeLine → ∀ (h' : Heap) (c' : Nat), (∀ b o', s.heap.get? b = some o' → h'.get? b = some o') →
   h'.get? s.heap.objs.size = some { cls := .type "list", dict := none, data := .seq its.toArray c', slots := #[] } → EP X pins σ Q (.ref s.heap.objs.size) { s with heap := h' } := fun its r' hz h' c' kp e =>
  ⟨.ref s.heap.objs.size, _, I.laid (t' := s.toks) kp (Nat.le_refl _) (show ObjOk X.prog X.w _ h' _ (.lst ys) from ⟨hz, its, c', r', e⟩), rfl, q _ (I.hok.fresh (Nat.le_refl _))⟩
 rcases hq with hq | hq
 ·obtain ⟨its, r', pl, hz⟩ := I.list hq
  have hlen := r'.length
  obtain ⟨o, ho, hc, n, hd⟩ := pl.isList
  exact call_list_seq p (.inl rfl) ho hc hd (fun h' c' kp e => fin its r' hz h' c' kp e) (by simp only [List.size_toArray] <;> omega)
 ·obtain ⟨its, r', pl, hz⟩ := I.tuple hq
  have hlen := r'.length
  obtain ⟨o, ho, hc, n, hd⟩ := pl
  exact call_list_seq p (.inr rfl) ho hc hd (fun h' c' kp e => fin its r' hz h' c' kp e) (by simp only [List.size_toArray] <;> omega)
noncomputable def tyV (K : PySem.W.Frag) (T : String) (x : V) (H : Hp) : Prop := match x with
 | .str _ => T = "str"
 | .int _ => T = "int"
 | .ref p => (T = "list" ∧ ∃ xs, SqL K H p xs) ∨ (T = "tuple" ∧ ∃ o, K.lookup p = some o ∧ o.cls = .type "tuple" ∧ o.dict = none) ∨
   (T = "dict" ∧ ((∃ kvs, H p = some (.dK kvs)) ∨ ∃ kvs, H p = some (.dT kvs))) ∨ (T = "set" ∧ ∃ S n, H p = some (.set S n))
 | _ => False
theorem tyV_is {pins : List (Addr × Obj)} {σ : St} {H : Hp} {s : Shared} {T : String} {x : V} {v : Value} (I : Inv X pins σ H s) (r : RelV x v) (ty : tyV X.K T x H) :
  s.TypeIs v T ∧ ∀ a, v = .ref a → ∃ ob, s.heap.get? a = some ob ∧ ob.dict = none := by
 cases x with
 | str z =>
  obtain ⟨t, rfl⟩ := r
  cases (show T = "str" from ty)
  exact ⟨typeIs_str s z t, fun _ e => nomatch e⟩
 | int i =>
  obtain ⟨t, rfl⟩ := r
  cases (show T = "int" from ty)
  exact ⟨typeIs_int s i t, fun _ e => nomatch e⟩
 | ref p =>
  cases r
  rcases ty with ⟨rfl, xs, hq⟩ | ⟨rfl, o, hk, hc, hd⟩ | ⟨rfl, hk⟩ | ⟨rfl, S, n, hk⟩
  ·obtain ⟨its, _, pl, _⟩ := I.list hq
   refine ⟨pl.isList.typeIs, fun a e => ?_⟩
   cases e
   obtain ⟨o, n, e, c, hd, _⟩ := pl
   exact ⟨o, e, hd⟩
  ·refine ⟨⟨o, I.kIn p o hk, hc⟩, fun a e => ?_⟩
   cases e
   exact ⟨o, I.kIn _ o hk, hd⟩
  ·have z : ∃ o, s.heap.get? p = some o ∧ o.ExactDict := by
    rcases hk with ⟨kvs, hk⟩ | ⟨kvs, hk⟩
    ·obtain ⟨_, _, _, _, o, _, _, e, ex, _⟩ := I.hok p _ hk
     exact ⟨o, e, ex⟩
    ·obtain ⟨_, _, _, _, o, _, _, e, ex, _⟩ := I.hok p _ hk
     exact ⟨o, e, ex⟩
   obtain ⟨o, e, ex⟩ := z
   refine ⟨⟨o, e, ex.1⟩, fun a e2 => ?_⟩
   cases e2
   exact ⟨o, e, ex.2.1⟩
  ·obtain ⟨o, _, _, _, e, ex, _⟩ := I.hok p _ hk
   refine ⟨⟨o, e, ex.1⟩, fun a e2 => ?_⟩
   cases e2
   exact ⟨o, e, ex.2.1⟩
 | _ => exact False.elim ty
noncomputable def tBM (K : PySem.W.Frag) (T : String) (r : V → List V → Hp → VK → Prop) (to : TE) (t : TA) : TE := fun σ H Q => to σ H fun x H1 => tyV K T x H1 ∧ t σ H1 fun xs H2 => r x xs H2 Q
variable {o e : Expr} {es : List Expr} {to : TE} {t : TA} {name : Str} {apos cpos : Pos} {T id : String} {r : V → List V → Hp → VK → Prop}
theorem pe_bm (pa : PlainAttrs T) (slot : Slot T name id) (hty : typeOf (.builtin id) = pure (.type "method_descriptor")) (hm : MtR X id r) (ho : PE X o to) (ha : PA X (e :: es) t)
  (hbase : attributeBase o name X.env (eval o X.env) = eval o X.env := by rfl)
  (hfew : ((backTo cpos (starEach (e :: es) X.env)).all (fun x => !x.1) && (backToKw cpos (keywordEach [] X.env)).all (fun x => x.1.isSome)
   && decide ((e :: es).length + ([] : List Keyword).length + (if ([] : List Keyword).isEmpty then 0 else 1) < 30)) = true := by rfl)
  (hline : (apos.endLine == cpos.line) = true := by rfl) (hs : starEach (e :: es) X.env = (false, eval e X.env) :: starEach es X.env := by rfl) (hplain : (backTo cpos (starEach es X.env)).any (·.1) = false := by rfl) :
  PE X (.Call (.Attribute o name apos) (e :: es) [] cpos) (tBM X.K T r to t) := by
 intro pins s σ H Q I h
 refine wpAny_Call_method_late hbase hfew hline rfl (thn (ho pins s σ H _ I h) fun v s1 ⟨x, H1, I1, r1, ty, q1⟩ => ?_)
 obtain ⟨h1, h2⟩ := tyV_is I1 r1 ty
 refine ⟨T, id, pa, slot, hty, h1, h2, ?_⟩
 have hA := ha cpos pins s1 σ H1 _ I1 q1
 rw [hs] at hA ⊢
 refine Calls.callWith_builtin (by show (false || (backTo cpos (starEach es X.env)).any (·.1)) = false; rw [hplain] <;> rfl) (Calls.evalArgs_plain ?_)
 exact thn hA fun us s2 ⟨vs, H2, I2, r2, q2⟩ => hm pins s2 σ H2 x vs v us Q I2 r1 r2 q2
end
end L2
namespace L2
open PySem PySem.Spec PyProof.Rows
noncomputable def MtM (X : Cx) (id : String) (r : V → List V → Hp → VK → Prop) : Prop :=
 ∀ (pins : List (Addr × Obj)) (s : Shared) (σ : St) (H : Hp) (x : V) (xs : List V) (v : Value) (us : List Value) (Q : VK), Inv X pins σ H s → RelV x v → Vals xs us → r x xs H Q →
  wpAny (model X.prog X.w) X.A (call (.builtin id) (v :: us)) (EP X pins σ Q) X.xe s
theorem Vals.one : ∀ {x : V} {us : List Value}, Vals [x] us → ∃ u, us = [u] ∧ RelV x u
 | _, _, .cons r .nil => ⟨_, rfl, r⟩
theorem Vals.two : ∀ {x y : V} {us : List Value}, Vals [x, y] us → ∃ u v, us = [u, v] ∧ RelV x u ∧ RelV y v
 | _, _, _, .cons r (.cons q .nil) => ⟨_, _, rfl, r, q⟩
theorem Vals.zero : ∀ {us : List Value}, Vals [] us → us = []
 | _, .nil => rfl
theorem Vals.dropLast {xs : List V} {us : List Value} (h : Vals xs us) : Vals xs.dropLast us.dropLast := by
 induction h with
 | nil => exact .nil
 | cons r t ih =>
  cases t with
  | nil => exact .nil
  | cons q t' => exact .cons r ih
theorem Vals.eraseIdx : ∀ {xs : List V} {us : List Value} (i : Nat), Vals xs us → Vals (xs.eraseIdx i) (us.eraseIdx i)
 | _, _, _, .nil => .nil
 | _, _, 0, .cons _ t => t
 | _, _, i + 1, .cons r t => .cons r (Vals.eraseIdx i t)
theorem Vals.reverse {xs : List V} {us : List Value} (h : Vals xs us) : Vals xs.reverse us.reverse := by
 induction h with
 | nil => exact .nil
 | cons r t ih => rw [List.reverse_cons, List.reverse_cons]; exact Vals.append ih (.cons r .nil)
theorem Vals.rep {xs : List V} {us : List Value} (h : Vals xs us) : ∀ k : Nat, Vals (List.replicate k xs).flatten (List.replicate k us).flatten
 | 0 => .nil
 | k + 1 => by
  rw [List.replicate_succ, List.replicate_succ, List.flatten_cons, List.flatten_cons]
  exact Vals.append h (Vals.rep h k)
theorem foldl_rep (its : List Value) : ∀ (k : Nat) (acc : List Value),
  List.foldl (fun x1 x2 => x1 ++ x2) acc.toArray (List.replicate k its.toArray) = (acc ++ (List.replicate k its).flatten).toArray
 | 0, acc => by simp
 | k + 1, acc => by
  have e : acc.toArray ++ its.toArray = (acc ++ its).toArray := by simp
  have e2 : (acc ++ its) ++ (List.replicate k its).flatten = acc ++ (List.replicate (k + 1) its).flatten := by
   rw [List.replicate_succ, List.flatten_cons, List.append_assoc]
  rw [← e2, ← foldl_rep its k (acc ++ its), ← e, List.replicate_succ, List.foldl_cons]
section
variable {X : Cx} {pins : List (Addr × Obj)} {σ : St} {H : Hp} {s : Shared} {l b : Addr} {xs ys zs : List V}
theorem Inv.lset {its its' : List Value} {n : Nat} {f : Array Value → Array Value} {t' : Nat} (I : Inv X pins σ H s) (hH : H l = some (.lst xs))
  (e : s.heap.get? l = some { cls := .type "list", data := .seq its.toArray n }) (hf : f its.toArray = its'.toArray) (hv : Vals ys its') (hz : ys.length ≤ sizeLine) :
  Inv X pins σ (upd H l (.lst ys)) { s with heap := s.heap.update l (Obj.mapSeq f), toks := t' } := by
 have q := PySem.IsL.update e f
 rw [hf] at q
 refine I.write (x := l) (e := l) (by rw [hH]; exact trivial) (.inl rfl) (fun b' u hb hu => (Heap.get?_update_other s.heap (Obj.mapSeq f) (Ne.symm hb)).trans hu) ⟨_, q⟩ ?_
 exact ⟨hz, its', _, hv, q⟩
theorem Inv.lnew {its : List Value} {t' : Nat} (I : Inv X pins σ H s) (hv : Vals ys its) (hz : ys.length ≤ sizeLine) :
  Inv X pins σ (upd H s.heap.objs.size (.lst ys)) { s with heap := s.heap.push { cls := .type "list", data := .seq its.toArray }, toks := t' } :=
 I.laid (fun _ _ q => Heap.get?_push_of_some _ q) (Nat.le_refl _) ⟨hz, its, 0, hv, Heap.get?_push_size _ rfl⟩
theorem Inv.fresh (I : Inv X pins σ H s) : H s.heap.objs.size = none := I.hok.fresh (Nat.le_refl _)
theorem Inv.lstM (I : Inv X pins σ H s) (hH : H l = some (.lst xs)) : xs.length ≤ sizeLine ∧ ∃ (its : List Value) (n : Nat), Vals xs its ∧ xs.length = its.length ∧ s.heap.get? l = some { cls := .type "list", data := .seq its.toArray n } := by
 obtain ⟨z, its, n, r, e⟩ := I.hok l _ hH
 exact ⟨z, its, n, r, r.length, e⟩
theorem notLongL {n : Nat} (h : n ≤ sizeLine) : Builtin.List.listTooLong n = false := by
 unfold Builtin.List.listTooLong
 exact decide_eq_false (by omega)
end
section
variable {X : Cx}
noncomputable def rAppend : V → List V → Hp → VK → Prop := fun x vs H Q => ∃ l xs y, x = .ref l ∧ vs = [y] ∧ H l = some (.lst xs) ∧ xs.length < sizeLine ∧ Q .non (upd H l (.lst (xs ++ [y])))
theorem mt_append : MtM X "list.append" rAppend := by
 intro pins s σ H x vs v us Q I rx rv h
 obtain ⟨l, xs, y, rfl, rfl, hH, hz, q⟩ := h
 cases rx
 obtain ⟨u, rfl, ru⟩ := rv.one
 obtain ⟨z, its, n, r, hl, e⟩ := I.lstM hH
 refine call_meets F.slot_list_append ⟨_, e, rfl⟩ F.entry_list_append (F.args_list_append_2 _ _) (PySem.list_append l its.toArray n u (by rw [List.size_toArray]; omega)) ⟨e, ?_⟩
 refine ⟨.non, _, I.lset (its' := its ++ [u]) hH e (by simp) (r.append (.cons ru .nil)) ?_, rfl, q⟩
 rw [List.length_append, List.length_singleton]
 omega
noncomputable def rCat : R2 := fun x y H Q => ∃ l b xs zs, x = .ref l ∧ y = .ref b ∧ H l = some (.lst xs) ∧ H b = some (.lst zs) ∧ xs.length + zs.length ≤ sizeLine ∧ ∀ p, H p = none → Q (.ref p) (upd H p (.lst (xs ++ zs)))
theorem op_cat : OpR X (binaryOp .Add) rCat := by
 intro pins s σ H x y v u Q I rx ry h
 obtain ⟨l, b, xs, zs, rfl, rfl, hH, hB, hz, q⟩ := h
 cases rx
 cases ry
 obtain ⟨z, its, n, r, hl, e⟩ := I.lstM hH
 obtain ⟨z2, its2, n2, r2, hl2, e2⟩ := I.lstM hB
 refine PySem.P.add_list e e2 ?_ (by rw [List.size_toArray, List.size_toArray]; omega)
 have ea : its.toArray ++ its2.toArray = (its ++ its2).toArray := by simp
 rw [ea]
 exact ⟨.ref _, _, I.lnew (t' := s.toks) (r.append r2) (by rw [List.length_append]; omega), rfl, q _ I.fresh⟩
noncomputable def rRep : R2 := fun x y H Q => ∃ l k xs, x = .ref l ∧ y = .int k ∧ H l = some (.lst xs) ∧ -(2 ^ 63) ≤ k ∧ k < 2 ^ 63 ∧ xs.length * k.toNat ≤ sizeLine ∧
 ∀ p, H p = none → Q (.ref p) (upd H p (.lst (List.replicate k.toNat xs).flatten))
theorem len_rep {α : Type} (xs : List α) (k : Nat) : (List.replicate k xs).flatten.length = k * xs.length := by
 induction k with
 | zero => simp
 | succ k ih => rw [List.replicate_succ, List.flatten_cons, List.length_append, ih, Nat.succ_mul, Nat.add_comm]
theorem op_rep : OpR X (binaryOp .Mult) rRep := by
 intro pins s σ H x y v u Q I rx ry h
 obtain ⟨l, k, xs, rfl, rfl, hH, h1, h2, hz, q⟩ := h
 cases rx
 obtain ⟨t, rfl⟩ := ry
 obtain ⟨z, its, n, r, hl, e⟩ := I.lstM hH
 have hlen : its.toArray.size * k.toNat ≤ sizeLine := by rw [List.size_toArray, ← hl]; exact hz
 have hcap : ¬ its.toArray.size * k.toNat > (2 ^ 63 - 1) / 8 := by
  have : (sizeLine : Nat) ≤ (2 ^ 63 - 1) / 8 := by decide
  omega
 have hfit : ¬ (!Builtin.List.listFitsIndex k) = true := by
  rw [fitsIndex_both h1 h2]
  exact Bool.false_ne_true
 have hlong : ¬ Builtin.List.listTooLong (its.toArray.size * k.toNat) = true := by
  rw [notLongL hlen]
  exact Bool.false_ne_true
 have hnew : List.foldl (fun x1 x2 => x1 ++ x2) #[] (List.replicate (if its.toArray.isEmpty = true then 0 else k.toNat) its.toArray) = (List.replicate k.toNat its).flatten.toArray := by
  have f0 : ∀ m : Nat, List.foldl (fun x1 x2 => x1 ++ x2) #[] (List.replicate m its.toArray) = (List.replicate m its).flatten.toArray := fun m => by
   have := foldl_rep its m []
   rw [List.nil_append] at this
   exact this
  rw [f0]
  cases its with
  | nil => simp
  | cons a r' => rw [if_neg (by simp)]
 refine wpAny_binaryOp_repeat_ref (T := "list") (U := "int") (by decide) ⟨_, e, rfl⟩ (fun s' => typeIs_int s' k t) noFill_list_mul F.fills_int_mul F.slot_int_rmul repeat_list F.slot_int_index.lookup
  (call_meets F.slot_int_rmul (typeIs_int s k t) F.entry_int_rmul (F.args_int_rmul_2 _ _) (int___rmul___int_list k t l its.toArray n)
   ⟨e, rfl, ⟨_, e, rfl⟩, call_meets F.slot_list_mul ⟨_, e, rfl⟩ F.entry_list_mul (F.args_list_mul_2 _ _) (AutoListH.list___mul___list_int_3 l its.toArray n k t hfit hcap hlong) ⟨e, ?_⟩⟩)
 rw [hnew]
 exact ⟨.ref _, _, I.lnew (t' := s.toks) (r.rep k.toNat) (by rw [len_rep, Nat.mul_comm]; exact hz), rfl, q _ I.fresh⟩
end
end L2
namespace Att
open PySem PySem.W PySem.Calls PyProof.Rows
theorem ints_of_wellAll {P : Params} {h : Heap} : ∀ (ns : List Int) (vs : List Value), WellAll P h vs (ns.map WData.int) → IntsAre vs ns := by
 intro ns
 induction ns with
 | nil =>
  intro vs w
  rw [List.map_nil] at w
  cases w
  exact .nil
 | cons n ns ih =>
  intro vs w
  rw [List.map_cons] at w
  cases w with
  | cons a b =>
   cases a
   exact .cons _ _ (ih _ b)
theorem script_of {l : OpenLaw} {n : Nat} (hn : l.most = some n) {P : Params} {h : Heap} {args : List WData} {vals : List Value}
  (hpre : l.row.toRowW.claim.pre args = true) (hwl : WellAll P h vals args) :
  ∃ a vs ns, vals = [Value.ref a] ∧ args = [WData.list (ns.map WData.int)] ∧ h.get? a = some { cls := .type "list", data := .seq vs.toArray } ∧ IntsAre vs ns ∧ ns.length ≤ n := by
 have hsh : WShape.hasAll [] args [.list .int] = true := (pre_splitW hpre).1
 have hc : l.pre.holds [] { args := args } = true := (pre_splitW hpre).2
 obtain ⟨d, r, rfl, h1, h2⟩ := hasAllW_cons hsh
 obtain rfl := hasAllW_nil h2
 obtain ⟨xs, rfl, h3⟩ := hasW_list h1
 obtain ⟨ns, rfl⟩ := items_int h3
 have hlen : ns.length ≤ n := by
  unfold OpenLaw.pre at hc
  have h4 : (WTm.not (.lt (.lit (.int (n : Int))) (.len (.arg 0)))).holds [] { args := [.list (ns.map .int)] } = true := by
   have h4 := (holds_andW hc).1
   rw [hn] at h4
   exact h4
  have h5 := condW_of h4 (w_not (w_lt w_lit (w_len_list (w_arg rfl))))
  rw [List.length_map] at h5
  refine Nat.le_of_not_lt fun q => ?_
  have q' : (n : Int) < ((ns.length : Nat) : Int) := by omega
  first
   | (rw [decide_eq_true q'] at h5; exact absurd h5 (by decide))
   | (simp at h5; omega)
 cases hwl with
 | cons w1 w2 =>
  cases w2
  cases w1 with
  | list ho hall => exact ⟨_, _, ns, rfl, rfl, ho, ints_of_wellAll ns _ hall, hlen⟩
theorem post_true (l : OpenLaw) (args : List WData) : l.row.toRowW.claim.post args (.bool true) args = true :=
 postW_of (r := l.row.toRowW) (X := (true == true))
  (show WShape.has [] (.bool true) .bool = true by first | rfl | decide | simp [WShape.has, WShape.arms, WShape.armsAll])
  (show (WTm.eq .res (.lit (.bool true))).value [] { args := args, res := some (.bool true), after := args } = some (.bool (true == true)) from w_eq_bool (w_res rfl) w_lit) rfl
theorem attach_call {l : OpenLaw} {n : Nat} {q : Program} {loose : List Str} {XP : (Str → Option Value) → Heap → Prop} {YP : World → Heap → Prop} {d : DefRec}
  (hn : l.most = some n) (hdf : d.params.defaults = [])
  (call : ∀ (w : World) (s₀ s₁ : Shared) (mg mb : Str → Option Value) (fa : Addr) (o : Obj) (pm cd doc : Value) (a : Addr) (vs : List Value) (ns : List Int),
   Ground q loose [] XP w s₀ mg mb s₁.heap → YP w s₁.heap →
   s₁.heap.get? fa = some o → o.data = .func (docDef d.name d.params d.body d.scope pm cd doc) → s₁.heap.CodeRec cd d.name → mg d.name = some (.ref fa) →
   s₁.heap.get? a = some { cls := .type "list", data := .seq vs.toArray } → IntsAre vs ns → ns.length ≤ n → s₁.gens = #[] →
   codeAny (model l.prog w) callerA (.call (.ref fa) ⟨[.ref a], []⟩) (fun r s' => r = .ok (.ret (.bool true)) ∧ OldK s₁.heap s'.heap ∧ s'.os = s₁.os ∧ AllBare s'.gens) s₁) :
  WalkO q loose XP YP l.row.toRowW d [] (fun f vs => PySem.call f vs) := by
 intro w s₀ s₁ mg mb G Y fa o pm cd doc dV kV ho hd hcd hD hmg hg args vals as hpre hlay hrd hwl hlo
 obtain rfl : dV = .none := Dflts.none hD hdf
 obtain rfl : kV = .none := Dflts.noKw hD
 obtain ⟨a, vs, ns, rfl, rfl, hobj, hints, hlen⟩ := script_of hn hpre hwl
 refine enter_call (codeAny_mono (call w s₀ s₁ mg mb fa o pm cd doc a vs ns G Y ho (fd_plain hd) hcd hmg hobj hints hlen hg) fun r s' hq => ?_)
 obtain ⟨rfl, h2, h3, h4⟩ := hq
 exact ⟨.inl ⟨.bool true, .bool true, [], rfl, fun _ => rfl, .bool true, post_true l _, fun _ => ⟨List.Pairwise.nil, fun _ hm => (nomatch hm)⟩⟩, h2, h3, h4⟩
end Att
namespace L2
open PySem PySem.Spec PyProof.Rows
theorem vals_ints : ∀ {vs : List Value} {ns : List Int}, IntsAre vs ns → Vals (ns.map V.int) vs
 | _, _, .nil => .nil
 | _, _, .cons n t h => .cons ⟨t, rfl⟩ (vals_ints h)
noncomputable def Only (H : Hp) : Prop := ∀ b, H b = none ∨ ∃ o xs, H b = some (.frz o (.lst xs))
theorem law_call {P : Program} {w : World} {K : PySem.W.Frag} {mg mb : Str → Option Value} {CX : CXT} {k : Nat} {fa a : Addr} {fd : FuncData} {x : Str} {sp : Sp} {s₁ : Shared} {vs : List Value} {ns : List Int}
  (KX : K.In s₁.heap) (hns : s₁.heap.Ns mainGlobals mg) (hb : s₁.heap.Ns builtinsNs mb) (hbb : ∀ x : Str, x ≠ "__name__" → mb x = bootBuiltins x) (hlim : s₁.heap.NoLimit) (hg : s₁.gens = #[])
  (ha : s₁.heap.get? a = some { cls := .type "list", data := .seq vs.toArray }) (hi : IntsAre vs ns) (hl : ns.length ≤ sizeLine) (hr : Room k callerA)
  (F : ∀ base : Heap, K.In base → base.Ns mainGlobals mg → FnOk P w K mg base CX k fa fd [x] sp) (hbind : ∀ (s : Shared) (u : Value), BindsTo s fd ⟨[u], []⟩ [(x, u)])
  (hsp : ∀ H : Hp, Only H → SqL K H a (ns.map V.int) → sp [.ref a] H (fun v _ => v = .bl true) fun _ _ _ => False)
  (hCX : ∀ H e s', CX [] H s₁ (fun _ _ _ => False) e s' → False) :
  codeAny (model P w) callerA (.call (.ref fa) ⟨[.ref a], []⟩) (fun r s' => r = .ok (.ret (.bool true)) ∧ OldK s₁.heap s'.heap ∧ s'.os = s₁.os ∧ AllBare s'.gens) s₁ := by
 have rv := vals_ints hi
 have lenV := hi.length
 -- from an abstract heap in which nothing but the script may be tracked
 have core : ∀ H : Hp, Only H → SqL K H a (ns.map V.int) → HOk P w H s₁.heap → (∀ b, H b ≠ none → b = a) → (H a ≠ none → K.lookup a = none) →
   codeAny (model P w) callerA (.call (.ref fa) ⟨[.ref a], []⟩) (fun r s' => r = .ok (.ret (.bool true)) ∧ OldK s₁.heap s'.heap ∧ s'.os = s₁.os ∧ AllBare s'.gens) s₁ := by
  intro H hO hS hok hA hK
  have base_of : ∀ {b : Addr} {o : Obj}, s₁.heap.get? b = some o → H b = none → (hidT s₁.heap H).get? b = some o := fun e n => hidT_get e n
  have noA : ∀ {b : Addr} {o : Obj} {es : Array DictEntry} {ep : Nat}, s₁.heap.get? b = some o → o.data = .dict es ep → H b = none := fun {b o es ep} e d => by
   cases q : H b with
   | none => rfl
   | some u =>
    have e' : b = a := hA b (by rw [q]; simp)
    subst e'
    rw [ha] at e; cases e
    have d' : Data.seq vs.toArray _ = Data.dict es ep := d
    cases d'
  have nsK : ∀ {b : Addr} {m : Str → Option Value}, s₁.heap.Ns b m → (hidT s₁.heap H).Ns b m := fun {b m} ⟨o, es, ep, e, d, r⟩ => ⟨o, es, ep, base_of e (noA e d), d, r⟩
  have hKb : K.In (hidT s₁.heap H) := fun b o e => base_of (KX b o e) (by
   cases q : H b with
   | none => rfl
   | some u =>
    have e' : b = a := hA b (by rw [q]; simp)
    subst e'
    rw [hK (by rw [q]; simp)] at e; cases e)
  have hM : Mod K mg (hidT s₁.heap H) := ⟨hKb, nsK hns, ⟨mb, nsK hb, hbb⟩, let ⟨mc, h1, h2⟩ := hlim; ⟨mc, nsK h1, h2⟩⟩
  have e0 : Env0 P w K mg (hidT s₁.heap H) callerA [] s₁ H := ⟨rfl, hM, fun b o e => of_hidT e, Nat.le_of_eq (hidT_size _ _), trivial, fun b hb => absurd (show b ∈ ([] : List Addr) from hb) (by simp), hok, .of_eq hg⟩
  refine codeAny_mono ((F _ hKb (nsK hns)).run callerA [] s₁ H ⟨[.ref a], []⟩ [.ref a] [.ref a] _ _ hr e0 (hbind s₁ (.ref a)) (.cons rfl .nil) (hsp H hO hS)) fun r s' h => ?_
  cases r with
  | error e => exact (hCX H e s' h).elim
  | ok fl =>
   cases fl with
   | next => exact False.elim h
   | brk => exact False.elim h
   | cont => exact False.elim h
   | ret u =>
    obtain ⟨v, H', os, bare, un, hok', r', q⟩ := h
    have q' : v = .bl true := q
    subst q'
    obtain rfl : u = Value.bool true := r'
    refine ⟨rfl, OldK.of_keep fun b o e => ?_, os, bare⟩
    cases q : H b with
    | none => exact un.keep b o e q (by intro z; exact absurd (show b ∈ ([] : List Addr) from z) (by simp)) (by simp)
    | some u =>
     rcases hO b with z | ⟨ob, xs, z⟩
     ·rw [q] at z; cases z
     ·have z2 := un.frzs b ob _ z
      obtain ⟨e1, _⟩ := hok b _ z
      obtain ⟨e2, _⟩ := hok' b _ z2
      rw [e] at e1; cases e1
      exact e2
 cases hk : K.lookup a with
 | some o =>
  -- the script is one of the module's own objects
  have e := KX a o hk
  rw [ha] at e
  cases e
  refine core (fun _ => none) (fun _ => .inl rfl) (.inr ⟨_, vs.toArray, _, hk, rfl, rfl, rfl, by rw [List.size_toArray, lenV]; exact hl, by simpa using rv⟩) (fun b u z => by have z' : (none : Option HO) = some u := z; cases z') (fun b z => absurd rfl z) fun z => absurd rfl z
 | none =>
  refine core (fun b => if b = a then some (.frz { cls := .type "list", data := .seq vs.toArray } (.lst (ns.map V.int))) else none) (fun b => ?_) (.inl (.inr ⟨{ cls := .type "list", data := .seq vs.toArray }, if_pos rfl⟩)) (fun b u z => ?_) (fun b z => ?_) fun _ => hk
  ·by_cases hb : b = a
   ·exact .inr ⟨_, _, if_pos hb⟩
   ·exact .inl (if_neg hb)
  ·by_cases hb : b = a
   ·have z' := (if_pos hb).symm.trans z
    cases z'
    subst hb
    exact ⟨ha, by rw [List.length_map]; exact hl, vs, _, rv, ha⟩
   ·have z' := (if_neg hb).symm.trans z
    cases z'
  ·by_cases hb : b = a
   ·exact hb
   ·exact absurd (if_neg hb) z
end L2
namespace L2
open PySem PySem.Spec PyProof.Rows
theorem walk_of {l : PySem.W.OpenLaw} {n k : Nat} {q : Program} {loose : List Str} {XP : (Str → Option Value) → Heap → Prop} {YP : World → Heap → Prop} {d : DefRec} {K : Params → PySem.W.Frag} {CX : World → CXT} {sp : World → Sp} {x : Str}
  (hn : l.most = some n) (hn2 : n ≤ sizeLine) (hdf : d.params.defaults = []) (hr : Room k callerA)
  (hY : ∀ (w : World) (h : Heap), YP w h → (K w.params).In h)
  (F : ∀ (w : World) (mg : Str → Option Value) (fa : Addr) (h : Heap), (K w.params).In h → h.Ns mainGlobals mg → mg d.name = some (.ref fa) →
   ∃ fd : FuncData, (∀ (s : Shared) (u : Value), BindsTo s fd ⟨[u], []⟩ [(x, u)]) ∧
    ∀ base : Heap, (K w.params).In base → base.Ns mainGlobals mg → FnOk l.prog w (K w.params) mg base (CX w) k fa fd [x] (sp w))
  (hsp : ∀ (w : World) (H : Hp) (a : Addr) (ns : List Int), ns.length ≤ n → Only H → SqL (K w.params) H a (ns.map V.int) → sp w [.ref a] H (fun v _ => v = .bl true) fun _ _ _ => False)
  (hCX : ∀ (w : World) (H : Hp) (s : Shared) (e : Value) (s' : Shared), CX w [] H s (fun _ _ _ => False) e s' → False) :
  PySem.W.WalkO q loose XP YP l.row.toRowW d [] (fun f vs => PySem.call f vs) := by
 refine Att.attach_call hn hdf fun w s₀ s₁ mg mb fa o pm cd doc a vs ns G Y ho hd hcd hmg hobj hints hlen hg => ?_
 have KX := hY w _ Y
 obtain ⟨fd, hb, hF⟩ := F w mg fa _ KX G.T.g hmg
 exact law_call KX G.T.g G.T.b G.T.builtins G.T.nolimit hg hobj hints (Nat.le_trans hlen hn2) hr hF hb (fun H hO hS => hsp w H a ns hlen hO hS) fun H e s' => hCX w H s₁ e s'
end L2
namespace L2
open PySem PySem.Spec PyProof.Rows
noncomputable def defArgs (s : Stmt) : Arguments := match s with
 | .FunctionDef _ a _ _ _ _ _ _ _ _ => a
 | _ => { posonlyargs := [], args := [], vararg := none, kwonlyargs := [], kw_defaults := [], kwarg := none, defaults := [] }
noncomputable def defBody (s : Stmt) : List Stmt := match s with
 | .FunctionDef _ _ b _ _ _ _ _ _ _ => b
 | _ => []
noncomputable def defScope (s : Stmt) : Scope := match s with
 | .FunctionDef _ _ _ _ _ _ sc _ _ _ => sc
 | _ => { kind := .function, names := [], isGenerator := false, isCoroutine := false }
noncomputable abbrev CX0 : CXT := fun _ _ _ _ _ _ => False
noncomputable abbrev E0 : XK := fun _ _ _ => False
structure Fun (K : PySem.W.Frag) (x qual : Str) (st : Stmt) (f : Addr) (fd : FuncData) : Prop where
 ex : ∃ (oc : Value) (od : Option Addr) (kV doc pm : Value) (an : Option Addr) (cdv ct : Value) (osl : Array (Option Value)),
  fd = PySem.W.fnOf x qual (defArgs st) (defBody st) (defScope st) .none kV doc pm an cdv ct ∧ K.lookup f = some ⟨oc, od, .func fd, osl⟩ ∧ PySem.W.codeIn K cdv qual = true
 kp : PySem.W.keepIn K (.ref f) = true
section
variable {P : Program} {w : World} {K : PySem.W.Frag} {mg : Str → Option Value} {base : Heap}
theorem Fun.ok {x qual : Str} {st : Stmt} {f : Addr} {fd : FuncData} {N ps : List Str} {k : Nat} {sp : Sp} (F : Fun K x qual st f fd) (S : FnScope N ps (defScope st)) (len : ∀ vs H Q E, sp vs H Q E → vs.length = ps.length)
  (hbody : ∀ (cdv : Value) (A : Around) (outer : List Env) (s : Shared) (H : Hp) (vs : List V) (Q : VK) (E : XK), Room k (A.deeper (envOfC qual (defScope st) s.heap.objs.size f cdv)) → sp vs H Q E →
   ∃ t, PSs (cxOf CX0 P w K mg base N qual (defScope st) f cdv A outer s H E).nox (defBody st) t ∧ t { nx := fun _ H' => Q .non H', rt := Q } (start N vs) H) : FnOk P w K mg base CX0 (k + 1) f fd ps sp := by
 obtain ⟨oc, od, kV, doc, pm, an, cdv, ct, osl, rfl, lk, hcd⟩ := F.ex
 refine fn_of lk hcd S len fun A outer s H vs Q E hr hsp => ?_
 obtain ⟨t, h, q⟩ := hbody cdv A outer s H vs Q E hr hsp
 exact ⟨t, h.nox, q⟩
theorem Fun.binds {x qual : Str} {st : Stmt} {f : Addr} {fd : FuncData} {ps : List Str} (F : Fun K x qual st f fd)
  (h : ∀ (kV doc pm : Value) (an : Option Addr) (cdv ct : Value) (us : List Value), us.length = ps.length → bindArgs (PySem.W.fnOf x qual (defArgs st) (defBody st) (defScope st) .none kV doc pm an cdv ct) ⟨us, []⟩ = pure (ps.zip us)) : Binds K fd ps [] := by
 obtain ⟨oc, od, kV, doc, pm, an, cdv, ct, osl, rfl, lk, hcd⟩ := F.ex
 exact .all (h kV doc pm an cdv ct)
theorem fun_mk {x qual : Str} {st : Stmt} {f : Addr} {oc : Value} {od an : Option Addr} {osl : Array (Option Value)} {kV doc pm cdv ct : Value} (l : K.lookup f = some ⟨oc, od, .func (PySem.W.fnOf x qual (defArgs st) (defBody st) (defScope st) .none kV doc pm an cdv ct), osl⟩)
  (c : PySem.W.codeIn K cdv qual = true) (k : PySem.W.keepIn K (.ref f) = true) : Fun K x qual st f (PySem.W.fnOf x qual (defArgs st) (defBody st) (defScope st) .none kV doc pm an cdv ct) := ⟨⟨oc, od, kV, doc, pm, an, cdv, ct, osl, rfl, l, c⟩, k⟩
end
theorem hu_of {A : Around} {k : Nat} (hr : Room k A) : A.units + 1 < cLine := Nat.lt_of_le_of_lt (Nat.add_le_add_left (by decide : 1 ≤ 64) _) hr.units
section
variable {X : Cx}
theorem pv (i : Nat) {x : Str} {pos : Pos} (hN : X.N[i]? = some x := by rfl) (hv : Vis X.env.scope x := by first | exact Or.inl rfl | exact Or.inr (Or.inl rfl) | exact Or.inr (Or.inr rfl)) (hd : (x == ("__debug__" : Str)) = false := by decide)
  (hcd : (x == ("__classdict__" : Str)) = false := by decide) : PE X (.Name x pos) (tVar i) := pe_var hN hv hd hcd
end
noncomputable def Same (H H' : Hp) : Prop := ∀ b o, H b = some o → H' b = some o
theorem Same.refl (H : Hp) : Same H H := fun _ _ h => h
theorem Same.trans {H H1 H2 : Hp} (a : Same H H1) (b : Same H1 H2) : Same H H2 := fun c o h => b c o (a c o h)
theorem Same.free {H H' : Hp} (e : Same H H') {l : Addr} (h : H' l = Option.none) : H l = Option.none := by
 cases q : H l with
 | none => rfl
 | some o =>
  rw [e l o q] at h
  cases h
theorem Same.seq {K : PySem.W.Frag} {H H' : Hp} {a : Addr} {xs : List V} (e : Same H H') (h : SqL K H a xs) : SqL K H' a xs := by
 rcases h with (h | ⟨o, h⟩) | h
 ·exact .inl (.inl (e _ _ h))
 ·exact .inl (.inr ⟨o, e _ _ h⟩)
 ·exact .inr h
end L2
set_option Elab.async false
set_option linter.all false
set_option maxRecDepth 100000
namespace L2
open PySem PySem.Spec PyProof.Rows
section
variable {κ : Type} [DecidableEq κ]
noncomputable def valV (kvs : List (κ × V)) (k : κ) : Option V := (kvs.find? fun kv => decide (kv.1 = k)).map (·.2)
noncomputable def putK (kvs : List (κ × V)) (k : κ) (v : V) : List (κ × V) :=
 if (kvs.any fun kv => decide (kv.1 = k)) = true then kvs.map (fun kv => if kv.1 = k then (kv.1, v) else kv) else kvs ++ [(k, v)]
noncomputable def dropK (kvs : List (κ × V)) (k : κ) : List (κ × V) := kvs.filter fun kv => decide (kv.1 ≠ k)
theorem valV_pos {p : κ × V} {r : List (κ × V)} {k : κ} (e : p.1 = k) : valV (p :: r) k = some p.2 := by simp [valV, List.find?_cons, e]
theorem valV_neg {p : κ × V} {r : List (κ × V)} {k : κ} (e : ¬ p.1 = k) : valV (p :: r) k = valV r k := by simp [valV, List.find?_cons, e]
theorem valV_any (k : κ) : ∀ kvs : List (κ × V), (kvs.any fun kv => decide (kv.1 = k)) = (valV kvs k).isSome
 | [] => rfl
 | p :: r => by
  rw [List.any_cons]
  by_cases e : p.1 = k
  ·simp only [valV_pos e, decide_eq_true e, Bool.true_or, Option.isSome_some]
  ·rw [valV_neg e, decide_eq_false e, Bool.false_or]; exact valV_any k r
theorem length_putK (kvs : List (κ × V)) (k : κ) (v : V) : (putK kvs k v).length ≤ kvs.length + 1 := by
 unfold putK
 split
 ·rw [List.length_map]; omega
 ·rw [List.length_append, List.length_cons, List.length_nil]; omega
theorem putK_new {kvs : List (κ × V)} {k : κ} (v : V) (h : valV kvs k = none) : putK kvs k v = kvs ++ [(k, v)] := by
 unfold putK
 rw [valV_any, h]
 exact if_neg (by decide)
theorem RelO.isSome_eq {o : Option V} {u : Option Value} (r : RelO o u) : o.isSome = u.isSome := by
 cases o with
 | none => cases u with
  | none => rfl
  | some _ => exact (show False from r).elim
 | some _ => cases u with
  | none => exact (show False from r).elim
  | some _ => rfl
theorem RelO.getD {o : Option V} {u : Option Value} {d : V} {d' : Value} (r : RelO o u) (rd : RelV d d') : RelV (o.getD d) (u.getD d') := by
 cases o with
 | none => cases u with
  | none => exact rd
  | some _ => exact (show False from r).elim
 | some _ => cases u with
  | none => exact (show False from r).elim
  | some _ => exact r
theorem KV.val {kvs : List (κ × V)} {vs : List (κ × Value)} (r : KV kvs vs) (k : κ) : RelO (valV kvs k) (valueAt vs k) := by
 unfold KV at r
 induction r with
 | nil => exact True.intro
 | @cons p q ps qs h t ih =>
  obtain ⟨h1, h2⟩ := h
  by_cases e : p.1 = k
  ·have e' : q.1 = k := h1.symm.trans e
   have b : valueAt (q :: qs) k = some q.2 := by simp [valueAt, List.find?_cons, e']
   rw [valV_pos e, b]; exact h2
  ·have e' : ¬ q.1 = k := fun z => e (h1.trans z)
   have b : valueAt (q :: qs) k = valueAt qs k := by simp [valueAt, List.find?_cons, e']
   rw [valV_neg e, b]; exact ih
theorem KV.any {kvs : List (κ × V)} {vs : List (κ × Value)} (r : KV kvs vs) (k : κ) : (kvs.any fun kv => decide (kv.1 = k)) = vs.any fun kv => decide (kv.1 = k) := by
 unfold KV at r
 induction r with
 | nil => rfl
 | cons h t ih => rw [List.any_cons, List.any_cons, ih, h.1]
theorem KV.repl {kvs : List (κ × V)} {vs : List (κ × Value)} (r : KV kvs vs) (k : κ) {y : V} {u : Value} (ry : RelV y u) :
  KV (kvs.map fun kv => if kv.1 = k then (kv.1, y) else kv) (vs.map fun kv => if kv.1 = k then (kv.1, u) else kv) := by
 unfold KV at r ⊢
 induction r with
 | nil => exact .nil
 | @cons p q ps qs h t ih =>
  rw [List.map_cons, List.map_cons]
  refine .cons ?_ ih
  obtain ⟨h1, h2⟩ := h
  by_cases e : p.1 = k
  ·rw [if_pos e, if_pos (h1.symm.trans e)]; exact ⟨h1, ry⟩
  ·rw [if_neg e, if_neg (fun z => e (h1.trans z))]; exact ⟨h1, h2⟩
theorem KV.put {kvs : List (κ × V)} {vs : List (κ × Value)} (r : KV kvs vs) (k : κ) {y : V} {u : Value} (ry : RelV y u) : KV (putK kvs k y) (stored vs k u) := by
 unfold putK stored
 rw [r.any k]
 by_cases e : (vs.any fun kv => decide (kv.1 = k)) = true
 ·rw [if_pos e, if_pos e]; exact r.repl k ry
 ·rw [if_neg e, if_neg e]; exact Paired.snoc r ⟨rfl, ry⟩
theorem KV.drop {kvs : List (κ × V)} {vs : List (κ × Value)} (r : KV kvs vs) (k : κ) : KV (dropK kvs k) (without vs k) := by
 unfold KV at r ⊢
 unfold dropK without
 induction r with
 | nil => exact .nil
 | @cons p q ps qs h t ih =>
  obtain ⟨h1, h2⟩ := h
  rw [List.filter_cons, List.filter_cons]
  by_cases e : p.1 = k
  ·have a : ¬ decide (p.1 ≠ k) = true := by simp [e]
   have b : ¬ decide (q.1 ≠ k) = true := by simp [h1.symm.trans e]
   rw [if_neg a, if_neg b]; exact ih
  ·have e' : ¬ q.1 = k := fun z => e (h1.trans z)
   have a : decide (p.1 ≠ k) = true := by simp [e]
   have b : decide (q.1 ≠ k) = true := by simp [e']
   rw [if_pos a, if_pos b]; exact .cons ⟨h1, h2⟩ ih
theorem KV.keys {kvs : List (κ × V)} {vs : List (κ × Value)} (r : KV kvs vs) : kvs.map (·.1) = vs.map (·.1) := by
 unfold KV at r
 induction r with
 | nil => rfl
 | cons h t ih => rw [List.map_cons, List.map_cons, ih, h.1]
theorem KV.length {kvs : List (κ × V)} {vs : List (κ × Value)} (r : KV kvs vs) : kvs.length = vs.length := Paired.length r
end
theorem kV_is {P : Program} {w : World} {k : Key} {u : Value} (r : RelV (kV k) u) : (mixKind P w).is k u = true := by
 cases k with
 | inl i => obtain ⟨t, e⟩ := (show ∃ t, u = Value.int i t from r); subst e; exact mixKind_int P w i t
 | inr x => obtain ⟨t, e⟩ := (show ∃ t, u = Value.str x t from r); subst e; exact mixKind_str P w x t
theorem items_are {P : Program} {w : World} : ∀ {ks : List Key} {us : List Value}, Vals (ks.map kV) us → ItemsAre (mixKind P w) ks us
 | [], _, r => by rw [List.map_nil] at r; cases r; exact .nil
 | k :: ks, _, r => by
  rw [List.map_cons] at r
  cases r with
  | cons h t => exact .cons (kV_is h) (items_are t)
noncomputable abbrev KT (H : Hp) : List (List Key × V) → List (List Key × Addr × Value) → Prop := Paired fun p q => p.1 = q.1 ∧ H q.2.1 = some (.tup (p.1.map kV)) ∧ RelV p.2 q.2.2
theorem KT.val {H : Hp} {kvs : List (List Key × V)} {xs : List (List Key × Addr × Value)} (r : KT H kvs xs) (k : List Key) : RelO (valV kvs k) ((atKey xs k).map (·.2)) := by
 induction r with
 | nil => exact True.intro
 | @cons p q ps qs h t ih =>
  obtain ⟨h1, _, h2⟩ := h
  by_cases e : p.1 = k
  ·have e' : q.1 = k := h1.symm.trans e
   have b : atKey (q :: qs) k = some q.2 := by simp [atKey, List.find?_cons, e']
   rw [valV_pos e, b]; exact h2
  ·have e' : ¬ q.1 = k := fun z => e (h1.trans z)
   have b : atKey (q :: qs) k = atKey qs k := by simp [atKey, List.find?_cons, e']
   rw [valV_neg e, b]; exact ih
theorem KT.repl {H : Hp} {kvs : List (List Key × V)} {xs : List (List Key × Addr × Value)} (r : KT H kvs xs) (k : List Key) {y : V} {u : Value} (ry : RelV y u) :
  KT H (kvs.map fun kv => if kv.1 = k then (kv.1, y) else kv) (xs.map (putAt k u)) := by
 induction r with
 | nil => exact .nil
 | @cons p q ps qs h t ih =>
  rw [List.map_cons, List.map_cons]
  refine .cons ?_ ih
  obtain ⟨h1, h2, h3⟩ := h
  unfold putAt
  by_cases e : p.1 = k
  ·rw [if_pos e, if_pos (h1.symm.trans e)]; exact ⟨h1, h2, ry⟩
  ·rw [if_neg e, if_neg (fun z => e (h1.trans z))]; exact ⟨h1, h2, h3⟩
theorem KT.put {H : Hp} {kvs : List (List Key × V)} {xs : List (List Key × Addr × Value)} (r : KT H kvs xs) (k : List Key) {b : Addr} {y : V} {u : Value} (hb : H b = some (.tup (k.map kV))) (ry : RelV y u) :
  KT H (putK kvs k y) (storedH xs k b u) := by
 have e : (kvs.any fun kv => decide (kv.1 = k)) = (atKey xs k).isSome := by
  rw [valV_any, (r.val k).isSome_eq, Option.isSome_map]
 unfold putK storedH
 rw [e]
 by_cases q : (atKey xs k).isSome = true
 ·rw [if_pos q, if_pos q]; exact r.repl k ry
 ·rw [if_neg q, if_neg q]; exact Paired.snoc r ⟨rfl, hb, ry⟩
theorem KT.keeps {H H' : Hp} {kvs : List (List Key × V)} {xs : List (List Key × Addr × Value)} (r : KT H kvs xs) (ht : ∀ b ys, H b = some (.tup ys) → H' b = some (.tup ys)) : KT H' kvs xs :=
 Paired.mapP r fun _ _ z => ⟨z.1, ht _ _ z.2.1, z.2.2⟩
section
variable {P : Program} {w : World} {H : Hp} {h : Heap} {a : Addr}
theorem rd_of {u : HO} (ok : HOk P w H h) (e : Rd H a u) : ObjOk P w H h a u := e.ok ok
theorem dk_rd {kvs : List (Key × V)} (ok : HOk P w H h) (e : Rd H a (.dK kvs)) : kvs.length ≤ sizeLine ∧ (a == sysModules) = false ∧ ∃ vs, KV kvs vs ∧ h.DictOf (mixKind P w) a vs :=
 show ObjOk P w H h a (.dK kvs) from rd_of ok e
theorem dk_of {kvs : List (Key × V)} (ok : HOk P w H h) (e : H a = some (.dK kvs)) : kvs.length ≤ sizeLine ∧ (a == sysModules) = false ∧ ∃ vs, KV kvs vs ∧ h.DictOf (mixKind P w) a vs := dk_rd ok (.inl e)
theorem key_of {ks : List Key} (ok : HOk P w H h) (e : H a = some (.tup (ks.map kV))) : (tupleKind (mixKind P w)).is h ks a := by
 obtain ⟨_, its, r, o, h1, h2, n, h3⟩ := (show ObjOk P w H h a (.tup (ks.map kV)) from ok a _ e)
 exact ⟨o, its.toArray, n, h1, h2, h3, by simpa using items_are r⟩
theorem dt_rd {kvs : List (List Key × V)} (ok : HOk P w H h) (e : Rd H a (.dT kvs)) : kvs.length ≤ sizeLine ∧ (a == sysModules) = false ∧
  ∃ xs, KT H kvs xs ∧ h.DictOfH (tupleKind (mixKind P w)) a xs := by
 obtain ⟨z, y, xs, r, o, es, ep, h1, h2, h3, h4, h5⟩ := (show ObjOk P w H h a (.dT kvs) from rd_of ok e)
 refine ⟨z, y, xs, r, o, es, ep, h1, h2, h3, h4, fun x hx => ?_, h5⟩
 have all : ∀ {l : List (List Key × V)} {m : List (List Key × Addr × Value)}, KT H l m → ∀ x ∈ m, (tupleKind (mixKind P w)).is h x.1 x.2.1 := by
  intro l m q
  induction q with
  | nil => intro x hx; exact nomatch hx
  | @cons p q ps qs hq t ih =>
   intro x hx
   rcases List.mem_cons.mp hx with e | hx
   ·subst e
    exact key_of ok (by rw [← hq.1]; exact hq.2.1)
   ·exact ih x hx
 exact all r x hx
theorem dt_of {kvs : List (List Key × V)} (ok : HOk P w H h) (e : H a = some (.dT kvs)) : kvs.length ≤ sizeLine ∧ (a == sysModules) = false ∧
  ∃ xs, KT H kvs xs ∧ h.DictOfH (tupleKind (mixKind P w)) a xs := dt_rd ok (.inl e)
end
noncomputable def DGet (H : Hp) (a : Addr) (y : V) (r : Option V) : Prop :=
 (∃ kvs k, Rd H a (.dK kvs) ∧ y = kV k ∧ r = valV kvs k) ∨ ∃ kvs k b, Rd H a (.dT kvs) ∧ y = .ref b ∧ H b = some (.tup (k.map kV)) ∧ r = valV kvs k
noncomputable def DPut (H : Hp) (a : Addr) (y v : V) (H' : Hp) : Prop :=
 (∃ kvs k, H a = some (.dK kvs) ∧ y = kV k ∧ kvs.length < sizeLine ∧ H' = upd H a (.dK (putK kvs k v))) ∨
 ∃ kvs k b, H a = some (.dT kvs) ∧ y = .ref b ∧ H b = some (.tup (k.map kV)) ∧ kvs.length < sizeLine ∧ H' = upd H a (.dT (putK kvs k v))
theorem DGet.k {H : Hp} {a : Addr} {kvs : List (Key × V)} {k : Key} (e : H a = some (.dK kvs)) : DGet H a (kV k) (valV kvs k) := .inl ⟨kvs, k, .inl e, rfl, rfl⟩
theorem DGet.t {H : Hp} {a b : Addr} {kvs : List (List Key × V)} {k : List Key} (e : H a = some (.dT kvs)) (eb : H b = some (.tup (k.map kV))) : DGet H a (.ref b) (valV kvs k) := .inr ⟨kvs, k, b, .inl e, rfl, eb, rfl⟩
theorem DPut.k {H : Hp} {a : Addr} {kvs : List (Key × V)} {k : Key} {v : V} (e : H a = some (.dK kvs)) (hl : kvs.length < sizeLine) : DPut H a (kV k) v (upd H a (.dK (putK kvs k v))) := .inl ⟨kvs, k, e, rfl, hl, rfl⟩
theorem DPut.t {H : Hp} {a b : Addr} {kvs : List (List Key × V)} {k : List Key} {v : V} (e : H a = some (.dT kvs)) (eb : H b = some (.tup (k.map kV))) (hl : kvs.length < sizeLine) :
  DPut H a (.ref b) v (upd H a (.dT (putK kvs k v))) := .inr ⟨kvs, k, b, e, rfl, eb, hl, rfl⟩
section
variable {X : Cx} {pins : List (Addr × Obj)} {σ : St} {H : Hp} {s : Shared} {a : Addr} {y v : V} {u r : Value} {o : Option V} {A : Around} {E : Value → Shared → Prop}
theorem Inv.big (I : Inv X pins σ H s) : sysModules < s.heap.objs.size := by
 have h : mainGlobals < s.heap.objs.size := (I.mod.glob.keeps I.bk).lt
 exact Nat.lt_trans (by decide) h
theorem d_write {h' : Heap} {t' : Nat} {ob : HO} (I : Inv X pins σ H s) (mu : Mut (H a)) (hs : Heap.SameBut a s.heap h') (he : ∃ q, h'.get? a = some q) (new : ObjOk X.prog X.w (upd H a ob) h' a ob) :
  Inv X pins σ (upd H a ob) { s with heap := h', toks := t' } :=
 I.write (x := a) (e := a) mu (.inl rfl) (fun b q hb z => (hs.2 b hb).trans z) he new
theorem dk_new {P : Program} {w : World} {H' : Hp} {h' : Heap} {kvs : List (Key × V)} {vs : List (Key × Value)} (z : kvs.length ≤ sizeLine) (hd : (a == sysModules) = false) (rel : KV kvs vs) (dd : h'.DictOf (mixKind P w) a vs) :
  ObjOk P w H' h' a (.dK kvs) := ⟨z, hd, vs, rel, dd⟩
theorem d_setItem {H' : Hp} {Q : Unit → Shared → Prop} (hu : A.units + 1 < cLine) (I : Inv X pins σ H s) (g : DPut H a y v H') (ry : RelV y u) (rv : RelV v r) (h : ∀ s', Inv X pins σ H' s' → Q () s') :
  wpAny (model X.prog X.w) A (setItem (.ref a) u r) Q E s := by
 rcases g with ⟨kvs, k, e, ey, l, eH⟩ | ⟨kvs, k, b, e, ey, eb, l, eH⟩
 ·subst ey eH
  obtain ⟨z, hd, vs, rel, dd⟩ := dk_of I.hok e
  have hz : vs.length ≤ sizeLine := by rw [← rel.length]; exact z
  have hl : (putK kvs k v).length ≤ sizeLine := by have := length_putK kvs k v; omega
  refine wpAny_setItem_pairs (hsz := hz) (kV_is ry) dd fun h' dd' hs => h _ ?_
  have he : ∃ q, h'.get? a = some q := let ⟨q, _, _, hq, _⟩ := dd'; ⟨q, hq⟩
  exact d_write I (by rw [e]; exact True.intro) hs he (dk_new hl hd (rel.put k rv) dd')
 ·subst ey eH
  cases (show u = Value.ref b from ry)
  obtain ⟨z, hd, xs, rel, dd⟩ := dt_of I.hok e
  have hz : xs.length ≤ sizeLine := by rw [← Paired.length rel]; exact z
  have hl : (putK kvs k v).length ≤ sizeLine := by have := length_putK kvs k v; omega
  refine wpAny_setItem_heap (hsz := hz) (tupleKind_room_in1 hu) (key_of I.hok eb) dd fun h' dd' hs => h _ ?_
  obtain ⟨q, es, ep, hq, h2, h3, h4, _, h5⟩ := dd'
  refine d_write I (by rw [e]; exact True.intro) hs ⟨q, hq⟩ ⟨hl, hd, _, (rel.put k eb rv).keeps fun c ys ec => ?_, q, es, ep, hq, h2, h3, h4, h5⟩
  rw [upd_ne (ne_of ec e (fun z => nomatch z))]
  exact ec
end
theorem dt_empty {P : Program} {w : World} {H : Hp} (h : Heap) (hb : sysModules < h.objs.size) : ObjOk P w H (h.push { cls := .type "dict", data := .dict #[] }) h.objs.size (.dT []) :=
 ⟨Nat.zero_le _, beq_eq_false_iff_ne.mpr (Ne.symm (Nat.ne_of_lt hb)), [], .nil, _, #[], 0, Heap.get?_push_size _ rfl, ⟨rfl, rfl, rfl⟩, rfl, rfl, List.nodup_nil⟩
noncomputable def tDNewK : TE := fun _ H Q => ∀ p, H p = none → Q (.ref p) (upd H p (.dK []))
noncomputable def tDNewT : TE := fun _ H Q => ∀ p, H p = none → Q (.ref p) (upd H p (.dT []))
section
variable {X : Cx} {pos : Pos}
theorem pe_dnewT : PE X (.Dict [] [] pos) tDNewT := fun pins s σ H Q I h =>
 wpAny_Dict_empty ⟨.ref s.heap.objs.size, _, I.laid (a := s.heap.objs.size) (o := .dT []) (t' := s.toks) (fun _ _ q => Heap.get?_push_of_some _ q) (Nat.le_refl _) (dt_empty s.heap I.big), rfl, h _ (I.hok.fresh (Nat.le_refl _))⟩
end
noncomputable def tPairs : List (TE × TE) → St → Hp → (List (V × V) → Hp → Prop) → Prop
 | [], _, H, Q => Q [] H
 | (tk, tv) :: r, σ, H, Q => tk σ H fun x H1 => tv σ H1 fun y H2 => tPairs r σ H2 fun ps H3 => Q ((x, y) :: ps) H3
noncomputable def mergeK (kvs more : List (Key × V)) : List (Key × V) := more.foldl (fun acc kv => putK acc kv.1 kv.2) kvs
noncomputable def tDisp (trs : List (TE × TE)) : TE := fun σ H Q => ∀ p, H p = none → tPairs trs σ (upd H p (.dK [])) fun ps H2 => H2 p = some (.dK []) ∧ ∃ kvs : List (Key × V), ps = kvs.map (fun kv => (kV kv.1, kv.2)) ∧ kvs.length ≤ 15 ∧ Q (.ref p) (upd H2 p (.dK (mergeK [] kvs)))
structure M1 (X : Cx) (o : Expr) (m : Str) (apos : Pos) (e : Expr) (cpos : Pos) : Prop where
 base : attributeBase o m X.env (eval o X.env) = eval o X.env
 few : ((backTo cpos (starEach [e] X.env)).all (fun x => !x.1) && (backToKw cpos (keywordEach [] X.env)).all (fun x => x.1.isSome)
  && decide (([e] : List Expr).length + ([] : List Keyword).length + (if ([] : List Keyword).isEmpty then 0 else 1) < 30)) = true
 line : (apos.endLine == cpos.line) = true
 trees : backTo cpos (starEach [e] X.env) = [(false, eval e X.env)]
structure M2 (X : Cx) (o : Expr) (m : Str) (apos : Pos) (e f : Expr) (cpos : Pos) : Prop where
 base : attributeBase o m X.env (eval o X.env) = eval o X.env
 few : ((backTo cpos (starEach [e, f] X.env)).all (fun x => !x.1) && (backToKw cpos (keywordEach [] X.env)).all (fun x => x.1.isSome)
  && decide (([e, f] : List Expr).length + ([] : List Keyword).length + (if ([] : List Keyword).isEmpty then 0 else 1) < 30)) = true
 line : (apos.endLine == cpos.line) = true
 trees : backTo cpos (starEach [e, f] X.env) = [(false, eval e X.env), (false, eval f X.env)]
end L2
namespace L2
open PySem PySem.Spec PyProof.Rows
section
variable {κ : Type} [DecidableEq κ]
theorem valV_not {kvs : List (κ × V)} {k : κ} (h : valV kvs k = none) : ¬ k ∈ kvs.map (·.1) := by
 intro m
 obtain ⟨p, hp, e⟩ := List.mem_map.mp m
 have q : (kvs.any fun kv => decide (kv.1 = k)) = true := List.any_eq_true.mpr ⟨p, hp, decide_eq_true e⟩
 rw [valV_any, h] at q
 exact absurd q (by simp)
theorem nd_snoc : ∀ {l : List κ} {k : κ}, l.Nodup → ¬ k ∈ l → (l ++ [k]).Nodup
 | [], k, _, _ => by simp
 | a :: r, k, h, hk => by
  obtain ⟨h1, h2⟩ := List.nodup_cons.mp h
  show (a :: (r ++ [k])).Nodup
  refine List.nodup_cons.mpr ⟨fun m => ?_, nd_snoc h2 fun m => hk (List.mem_cons.mpr (Or.inr m))⟩
  rcases List.mem_append.mp m with q | q
  ·exact h1 q
  ·exact hk (List.mem_cons.mpr (Or.inl (List.mem_singleton.mp q).symm))
theorem nd_putK {kvs : List (κ × V)} {k : κ} (v : V) (hn : (kvs.map (·.1)).Nodup) (h : valV kvs k = none) : ((putK kvs k v).map (·.1)).Nodup := by
 rw [putK_new v h, List.map_append]
 exact nd_snoc hn (valV_not h)
end
end L2
set_option Elab.async false
set_option linter.all false
set_option maxRecDepth 100000
namespace L2
open PySem PySem.Spec PyProof.Rows
noncomputable def Bd (n : Nat) (i : Int) : Prop := i.natAbs < 2 ^ n
theorem Bd.mono {m n : Nat} {i : Int} (h : Bd m i) (hm : m ≤ n) : Bd n i := Nat.lt_of_lt_of_le h (Nat.pow_le_pow_right (by decide) hm)
theorem Bd.mul {m n : Nat} {i j : Int} (h : Bd m i) (k : Bd n j) : Bd (m + n) (i * j) := by
 unfold Bd at *
 rw [Int.natAbs_mul, Nat.pow_add]
 exact Nat.mul_lt_mul'' h k
theorem pow_add_le (m n : Nat) : 2 ^ m + 2 ^ n ≤ 2 ^ (m + n + 1) := by
 have h1 : 2 ^ m ≤ 2 ^ (m + n) := Nat.pow_le_pow_right (by decide) (Nat.le_add_right _ _)
 have h2 : 2 ^ n ≤ 2 ^ (m + n) := Nat.pow_le_pow_right (by decide) (Nat.le_add_left _ _)
 have h3 : 2 ^ (m + n + 1) = 2 ^ (m + n) * 2 := Nat.pow_succ _ _
 omega
theorem Bd.add {m n : Nat} {i j : Int} (h : Bd m i) (k : Bd n j) : Bd (m + n + 1) (i + j) := by
 have e := pow_add_le m n
 unfold Bd at *
 omega
theorem Bd.sub {m n : Nat} {i j : Int} (h : Bd m i) (k : Bd n j) : Bd (m + n + 1) (i - j) := by
 have e := pow_add_le m n
 unfold Bd at *
 omega
theorem Bd.neg {m : Nat} {i : Int} (h : Bd m i) : Bd m (-i) := by
 unfold Bd at *
 omega
theorem Bd.abs {m : Nat} {i : Int} (h : Bd m i) : Bd m (if i < 0 then -i else i) := by
 split
 ·exact h.neg
 ·exact h
theorem Bd.of_le {n : Nat} {i : Int} (b : Int) (h1 : -b ≤ i) (h2 : i ≤ b) (hb : b.natAbs < 2 ^ n) : Bd n i := by
 unfold Bd
 omega
theorem Bd.bits {n : Nat} {i : Int} (h : Bd n i) : Builtin.Int.intBits i ≤ n := by
 unfold Bd at h
 unfold Builtin.Int.intBits
 split
 ·exact Nat.zero_le _
 ·rename_i z
  have : i.natAbs ≠ 0 := by
   intro e
   apply z
   have : i = 0 := by omega
   subst this
   rfl
  have := (Nat.log2_lt this).mpr h
  omega
theorem Bd.log {n : Nat} {i : Int} (h : Bd n i) (h0 : 0 < n) : i.natAbs.log2 < n := by
 by_cases e : i.natAbs = 0
 ·rw [e]
  exact Nat.lt_of_le_of_lt (by decide) h0
 ·exact (Nat.log2_lt e).mpr h
theorem Bd.sq {m : Nat} {i : Int} (h : Bd m i) : Bd (m + m) (i ^ 2) := by
 have e : i ^ 2 = i * i := by grind
 rw [e]
 exact h.mul h
section
variable {X : Cx}
noncomputable def CMulA (i j : Int) : Prop := CMul i j ∨ (Bd 100000 i ∧ Bd 100000 j)
theorem CMulA.ok {i j : Int} (h : CMulA i j) : IntMulOk i j := by
 rcases h with h | ⟨h1, h2⟩
 ·exact h.ok
 ·exact .of_bits (Nat.le_trans h1.bits (by decide)) (Nat.le_trans h2.bits (by decide))
theorem op_mulA : OpR X (binaryOp .Mult) (rI CMulA fun i j => .int (i * j)) := opI fun _ _ _ _ _ _ _ hc q => mul_int q hc.ok
theorem op_fdivB : OpR X (binaryOp .FloorDiv) (rI (fun _ j => j ≠ 0 ∧ Bd 9000 j) fun i j => .int (i.fdiv j)) := opI fun _ _ _ _ _ _ _ hc q => floordiv_int hc.1 q (.inl (PyProof.noPylong_of_log2 (hc.2.log (by decide))))
theorem op_powB : OpR X (binaryOp .Pow) (rI (fun i j => 0 ≤ j ∧ j ≤ 100 ∧ Bd 100000 i) fun i j => .int (i ^ j.toNat)) := opI fun i j _ _ _ _ _ hc q => by
 obtain ⟨h1, h2, h3⟩ := hc
 refine pow_int h1 ?_ q
 have hb : Builtin.Int.intBits i ≤ 100000 := h3.bits
 have e : ((Builtin.Int.intBits i : Nat) : Int) * j ≤ 100000 * 100 := Int.mul_le_mul (by omega) h2 h1 (by decide)
 exact Int.le_trans e (by decide)
end
end L2
set_option Elab.async false
set_option linter.all false
set_option maxRecDepth 100000
namespace L2
open PySem PySem.Spec PyProof.Rows
section
variable {prog : Program} {w : World} {A : Around} {E : Value → Shared → Prop} {s : Shared}
theorem draw_listL {it l : Addr} {items : Array Value} (hne : l ≠ it) : ∀ (n i : Nat) (s : Shared) (Q : List Value → Shared → Prop), s.heap.IsListIter it l i → s.heap.IsList l items → i + n ≤ items.size →
  (∀ h', h'.IsListIter it l (i + n) → Heap.SameBut it s.heap h' → Q ((items.toList.drop i).take n) { s with heap := h' }) → wpAny (model prog w) A (draw (.ref it) n) Q E s
 | 0, i, s, Q, hit, _, _, hQ => by
  show wpAny _ _ (pure []) Q E s
  exact wpAny_pure (by simpa using hQ s.heap hit (Heap.SameBut.refl ..))
 | n + 1, i, s, Q, hit, ht, hle, hQ => by
  have hlt : i < items.size := by omega
  show wpAny _ _ (pyNext (.ref it) >>= _) Q E s
  refine wpAny_bind (wpAny_pyNext_list_item hit ht (x := items[i]) (by simp [hlt]) fun h₁ hit₁ hs₁ => ?_)
  refine wpAny_bind (wpAny_holding (draw_listL hne n (i + 1) _ _ hit₁ (ht.extBut hs₁.extBut hne) (by omega) fun h₂ hit₂ hs₂ => wpAny_pure ?_))
  have hd : items.toList.drop i = items[i] :: items.toList.drop (i + 1) := by simp [List.drop_eq_getElem_cons, hlt]
  have := hQ h₂ (by rw [show i + (n + 1) = i + 1 + n by omega]; exact hit₂) (hs₁.trans hs₂)
  rw [hd, List.take_succ_cons] at this
  exact this
theorem unpackItems_listL {t : Addr} {items : Array Value} {Q : List Value → Shared → Prop} (hh : A.handled = none) (ht : s.heap.IsList t items)
  (hQ : ∀ h', Heap.ExtBut s.heap.objs.size s.heap h' → Q items.toList { s with heap := h' }) : wpAny (model prog w) A (unpackItems (.ref t) items.size none) Q E s := by
 have hlt : t ≠ s.heap.objs.size := by obtain ⟨o, ho, _⟩ := ht; exact Nat.ne_of_lt (Heap.lt_size ho)
 unfold unpackItems
 refine wpAny_bind ?_
 ·unfold notIterableAtAll
  refine wpAny_bind (wpAny_specialOf ht.typeIs slot_list_iter.lookup ?_)
  refine wpAny_pure ?_
  simp only [Bool.false_eq_true, if_false]
  refine wpAny_bind (wpAny_holding (wpAny_pyIter_list ht ?_))
  have ht0 : (s.heap.push { cls := .type "list_iterator", data := .fields #[.ref t, .int 0 0] }).IsList t items := ht.at fun o e => Heap.get?_push_of_some _ e
  refine wpAny_bind (wpAny_holding (draw_listL hlt items.size 0 _ _ ⟨_, Heap.get?_push_size _ rfl, rfl, rfl⟩ ht0 (by omega) fun h₁ hit₁ hs₁ => ?_))
  have hall : List.take items.size (List.drop 0 items.toList) = items.toList := by
   rw [List.drop_zero]; exact List.take_of_length_le (by simp)
  rw [hall]
  rw [if_neg (by simp)]
  have ht₁ : h₁.IsList t items := ht0.extBut hs₁.extBut hlt
  refine wpAny_bind (wpAny_holding (wpAny_pyNext_list_end hh hit₁ ht₁ (by simp) fun h₂ he₂ => ?_))
  simp only [Option.isSome_none, Bool.false_eq_true, if_false]
  refine wpAny_pure (hQ h₂ fun b o hb e => he₂ b o hb (hs₁.extBut b o hb (Heap.get?_push_of_some _ e)))
theorem assign_Tuple_listL {env : Env} {elts : List Expr} {x1} {pos : Pos} {t : Addr} {items : Array Value} {Q : Unit → Shared → Prop} (hh : A.handled = none) (ht : s.heap.IsList t items)
  (hn : (assignEach elts env).length = items.size) (hstar : (assignEach elts env).findIdx? (·.1) = none)
  (h : ∀ h', Heap.ExtBut s.heap.objs.size s.heap h' → wpAny (model prog w) A (assignInOrder ((assignEach elts env).map (·.2)) items.toList) Q E { s with heap := h' }) :
  wpAny (model prog w) A (assign (.Tuple elts x1 pos) env (.ref t)) Q E s := by
 rw [assign_Tuple]
 refine wpAny_bind (wpAny_standAt ?_)
 unfold unpack
 rw [hn, hstar]
 exact wpAny_bind (wpAny_holding (unpackItems_listL hh ht h))
end
section
variable {X : Cx} {pos : Pos}
noncomputable def gLst (K : PySem.W.Frag) (n : Nat) (t : TGs) : TG := fun v σ H Q => ∃ a xs, v = .ref a ∧ SqL K H a xs ∧ xs.length = n ∧ t xs σ H Q
theorem pg_lst {es : List Expr} {k : Nat} {t : TGs} {n : Nat} (hc : X.calm = true) (h : PGs X es t)
  (hn : (assignEach es X.env).length = n := by rfl) (hst : (assignEach es X.env).findIdx? (·.1) = none := by rfl) : PG X (.Tuple es k pos) (gLst X.K n t) := by
 intro pins s σ H v u Q I r hw
 obtain ⟨a, xs, e1, hq, hl, hw⟩ := hw
 subst e1
 cases r
 obtain ⟨its, rv, ht, hz⟩ := I.list hq
 refine assign_Tuple_listL (I.ok.hd hc) ht.isList (by simp [hn, ← hl, rv.length]) hst fun h' hx => ?_
 have I1 : Inv X pins σ H { s with heap := h' } := I.kept (t' := s.toks) fun b o e => hx b o (Nat.ne_of_lt (Heap.lt_size e)) e
 exact h pins _ σ H xs _ Q I1 (by simpa using rv) hw
noncomputable def gSeq (K : PySem.W.Frag) (n : Nat) (t : TGs) : TG := fun v σ H Q => gTup K n t v σ H Q ∨ gLst K n t v σ H Q
theorem pg_seq {es : List Expr} {k : Nat} {t : TGs} {n : Nat} (hc : X.calm = true) (h : PGs X es t)
  (hn : (assignEach es X.env).length = n := by rfl) (hst : (assignEach es X.env).findIdx? (·.1) = none := by rfl) : PG X (.Tuple es k pos) (gSeq X.K n t) := by
 intro pins s σ H v u Q I r hw
 rcases hw with hw | hw
 ·exact pg_tup hc h hn hst pins s σ H v u Q I r hw
 ·exact pg_lst hc h hn hst pins s σ H v u Q I r hw
end
theorem closureFor_go {env : Env} : ∀ (names : List (Str × NameKind)) (acc : List (Str × Addr)), (∀ y ∈ names, y.2 = .free → ∃ c, env.cells.lookup y.1 = some c) → (∀ x c, acc.lookup x = some c → env.cells.lookup x = some c) →
  ∃ cl, (forIn (m := Sem) names acc fun y cs => (match y with | (name, kind) => do
    let mut cs := cs
    if kind == .free then cs := (name, ← cellOf env name) :: cs
    pure (ForInStep.yield cs) : Sem (ForInStep (List (Str × Addr))))) = pure cl ∧ (∀ x c, cl.lookup x = some c → env.cells.lookup x = some c) ∧ (∀ y ∈ names, y.2 = .free → ∃ c, cl.lookup y.1 = some c) ∧ (∀ x c, acc.lookup x = some c → ∃ c', cl.lookup x = some c')
 | [], acc, _, ha => ⟨acc, rfl, ha, fun _ z => absurd z List.not_mem_nil, fun x c h => ⟨c, h⟩⟩
 | (n, k) :: r, acc, hf, ha => by
  by_cases hk : k = .free
  ·subst hk
   obtain ⟨c, hc⟩ := hf (n, .free) List.mem_cons_self rfl
   obtain ⟨cl, e, h1, h2, h3⟩ := closureFor_go r ((n, c) :: acc) (fun y hy => hf y (List.mem_cons_of_mem _ hy)) (fun x d hx => by
    rw [List.lookup_cons] at hx
    split at hx
    ·rename_i z
     have : x = n := by simpa using z
     subst this
     cases hx
     exact hc
    ·exact ha x d hx)
   refine ⟨cl, ?_, h1, fun y hy hyf => ?_, fun x d hx => ?_⟩
   ·rw [List.forIn_cons]
    simp only [beq_self_eq_true, if_true, cellOf, hc, pure_bind, bind_pure_comp, map_pure]
    simp only [cellOf] at e
    simpa using e
   ·rcases List.mem_cons.mp hy with z | z
    ·subst z
     exact h3 n c (by simp)
    ·exact h2 y z hyf
   ·by_cases z : x = n
    ·subst z
     exact h3 x c (by simp)
    ·refine h3 x d ?_
     rw [List.lookup_cons]
     have : (x == n) = false := by simpa using z
     rw [this]
     exact hx
  ·obtain ⟨cl, e, h1, h2, h3⟩ := closureFor_go r acc (fun y hy => hf y (List.mem_cons_of_mem _ hy)) ha
   have hb : (k == NameKind.free) = false := by simpa using hk
   refine ⟨cl, ?_, h1, fun y hy hyf => ?_, h3⟩
   ·rw [List.forIn_cons]
    simp only [hb, Bool.false_eq_true, if_false, pure_bind]
    simpa using e
   ·rcases List.mem_cons.mp hy with z | z
    ·subst z
     exact absurd hyf hk
    ·exact h2 y z hyf
theorem closureFor_ok {scope : Scope} {env : Env} (hf : ∀ y ∈ scope.names, y.2 = .free → ∃ c, env.cells.lookup y.1 = some c) :
  ∃ cl, closureFor scope env = pure cl ∧ (∀ x c, cl.lookup x = some c → env.cells.lookup x = some c) ∧ (∀ y ∈ scope.names, y.2 = .free → ∃ c, cl.lookup y.1 = some c) := by
 obtain ⟨cl, e, h1, h2, _⟩ := closureFor_go (env := env) scope.names [] hf (fun x c h => by simp at h)
 refine ⟨cl, ?_, h1, h2⟩
 unfold closureFor
 have e' := e
 simp only [bind_pure] at *
 first | exact e | (rw [e]; rfl) | simpa using e
end L2
set_option Elab.async false
set_option linter.all false
set_option maxRecDepth 100000
namespace L2
open PySem PySem.Spec PyProof.Rows
noncomputable def cxLC (X : Cx) (scope : Scope) (cl : List (Str × Addr)) (N : List Str) (C : Addr) (s : Shared) (H : Hp) (ex : List Addr) (pn : List (Addr × Obj)) : Cx where
 prog := X.prog
 w := X.w
 K := X.K
 mg := X.mg
 base := X.base
 A := X.A
 N := N
 s₀ := s
 H₀ := H
 env := compEnvC scope cl C X.env
 outer := X.stack
 stack := X.stack
 ex := ex
 fn := fun _ => false
 calm := X.calm
 pn := pn
 xe := fun _ _ => False
structure CScope (X : Cx) (scope : Scope) (N : List Str) (k : Nat) (js : List Nat) : Prop where
 kind : scope.kind = .function
 nocell : ∀ y ∈ scope.names, y.2 ≠ .cell
 names : ∀ y ∈ scope.names, y.2 = .local → scope.names.lookup y.1 = some .local
 frees : ∀ y ∈ scope.names, y.2 = .free → X.env.kindOf y.1 = some .cell ∨ X.env.kindOf y.1 = some .free
 len : N.length = k + js.length
 look : ∀ i j, js[i]? = some j → ∃ x, N[k + i]? = some x ∧ X.N[j]? = some x ∧ scope.names.lookup x = some .free
theorem relabel_lookup {scope : Scope} {env : Env} (x : Str) : (relabel scope env).names.lookup x = (scope.names.lookup x).map fun k => if (k == .free && env.scope.kind == .function && env.kindOf x == some .cell) then .cell else k := by
 unfold relabel
 dsimp only
 generalize scope.names = l
 induction l with
 | nil => rfl
 | cons y r ih =>
  obtain ⟨n, k⟩ := y
  rw [List.map_cons, List.lookup_cons]
  by_cases hx : x = n
  ·subst hx
   dsimp only
   by_cases hc : (k == NameKind.free && env.scope.kind == ScopeKind.function && env.kindOf x == some NameKind.cell) = true
   ·rw [if_pos hc]
    simp only [List.lookup_cons, beq_self_eq_true, Option.map_some]
    rw [if_pos hc]
   ·rw [if_neg hc]
    simp only [List.lookup_cons, beq_self_eq_true, Option.map_some]
    rw [if_neg hc]
  ·have hb : (x == n) = false := by simpa using hx
   dsimp only
   by_cases hc : (k == NameKind.free && env.scope.kind == ScopeKind.function && env.kindOf n == some NameKind.cell) = true
   ·rw [if_pos hc]
    simp only [List.lookup_cons, hb]
    exact ih
   ·rw [if_neg hc]
    simp only [List.lookup_cons, hb]
    exact ih
theorem lookup_mem {α : Type} : ∀ {l : List (Str × α)} {x : Str} {v : α}, l.lookup x = some v → (x, v) ∈ l
 | [], _, _, h => by simp at h
 | (n, k) :: r, x, v, h => by
  rw [List.lookup_cons] at h
  split at h
  ·rename_i z
   have : x = n := by simpa using z
   subst this
   cases h
   exact List.mem_cons_self
  ·exact List.mem_cons_of_mem _ (lookup_mem h)
noncomputable def frV (σ : St) (js : List Nat) : St := js.map fun j => (σ[j]?).join
noncomputable def stLC (σ : St) (k : Nat) (js : List Nat) : St := List.replicate k none ++ frV σ js
section
variable {X : Cx} {pins : List (Addr × Obj)} {σ : St} {H : Hp} {s : Shared} {scope : Scope} {N : List Str} {k : Nat} {js : List Nat} {cl : List (Str × Addr)} {fp : List Addr}
theorem Inv.block {h1 : Heap} {tk : Nat} (I : Inv X pins σ H s) (S : CScope X scope N k js)
  (hcl1 : ∀ x c, cl.lookup x = some c → X.env.cells.lookup x = some c) (hcl2 : ∀ y ∈ scope.names, y.2 = .free → ∃ c, cl.lookup y.1 = some c)
  (hns : h1.Ns s.heap.objs.size (fun _ => none)) (hk : ∀ b o, s.heap.get? b = some o → h1.get? b = some o)
  (hf : ∀ b ∈ fp, FpOk X pins H b) (hfp : ∀ b ∈ fp, ∃ o, s.heap.get? b = some o ∧ ∀ v, o.data ≠ .cell v) :
  Inv (cxLC X scope cl N s.heap.objs.size s H fp (X.pn ++ pins)) [] (stLC σ k js) H { s with heap := h1, toks := tk } := by
 have hxc : ∀ x c, cl.lookup x = some c → c < s.heap.objs.size := fun x c h => by
  obtain ⟨v, q⟩ := I.cell x c (hcl1 x c h)
  exact q.lt
 have lkL : ∀ x, (compEnvC scope cl s.heap.objs.size X.env).kindOf x = (scope.names.lookup x).map fun k => if (k == .free && X.env.scope.kind == .function && X.env.kindOf x == some .cell) then .cell else k := fun x => relabel_lookup x
 refine ⟨⟨I.ok.mod, S.kind, I.ok.glob, I.ok.blt, Nat.le_refl _, fun x y c h1 h2 => I.ok.inj x y c (hcl1 x c h1) (hcl1 y c h2), fun x hx => ?_, fun x c h _ => absurd (show false = true from h) (by decide), I.ok.hd, I.ok.frames, .inl rfl, fun b hb => ?_, I.bs,
  Nat.le_trans I.ok.bsz I.sz, fun b o e z => ?_, fun b hb z => ?_, I.stack, I.stkFree⟩, rfl, I.bare, Un.kept hk, ⟨_, hns, fun i x v e1 e2 e3 => ?_⟩, fun x c h => ?_, ?_, fun x c h => I.freeC x c (hcl1 x c h), fun p hp => ?_, I.hok.kept hk, ?_⟩
 ·-- has
  have hx : ((scope.names.lookup x).map fun k => if (k == .free && X.env.scope.kind == .function && X.env.kindOf x == some .cell) then NameKind.cell else k) = some .cell ∨ ((scope.names.lookup x).map fun k => if (k == .free && X.env.scope.kind == .function && X.env.kindOf x == some .cell) then NameKind.cell else k) = some .free := by
   rcases hx with hx | hx
   ·exact .inl ((lkL x).symm.trans hx)
   ·exact .inr ((lkL x).symm.trans hx)
  have : scope.names.lookup x = some .free := by
   cases e : scope.names.lookup x with
   | none => rw [e] at hx; rcases hx with hx | hx <;> cases hx
   | some q =>
    rw [e] at hx
    by_cases hq : q = .free
    ·rw [hq]
    ·have hb : (q == NameKind.free) = false := by simpa using hq
     simp only [Option.map_some, hb, Bool.false_and, Bool.false_eq_true, if_false, Option.some.injEq] at hx
     rcases hx with hx | hx
     ·exact absurd hx (S.nocell _ (lookup_mem e))
     ·exact absurd hx hq
  obtain ⟨c, hc⟩ := hcl2 _ (lookup_mem this) rfl
  exact ⟨c, hc⟩
 ·obtain ⟨f0, f1, f2, f3, f4, f5⟩ := hf b hb
  obtain ⟨o, ho, _⟩ := hfp b hb
  exact ⟨Nat.ne_of_lt (Heap.lt_size ho), fun x c h => f4 x c (hcl1 x c h)⟩
 ·obtain ⟨f0, f1, f2, f3, f4, f5⟩ := hf b z
  rcases f3 with f3 | f3
  ·exact I.ok.noex b o e f3
  ·exact absurd (Nat.lt_of_lt_of_le (Heap.lt_size (I.ok.bs b o e).1) f3) (Nat.lt_irrefl _)
 ·obtain ⟨f0, f1, f2, f3, f4, f5⟩ := hf b hb
  rcases List.mem_cons.mp (I.stkSub b z) with q | q
  ·exact f1 q
  ·exact f2 q
 ·-- the values
  by_cases hi : i < k
  ·have : (stLC σ k js)[i]? = some none := by
    unfold stLC
    rw [List.getElem?_append_left (by simpa using hi), List.getElem?_replicate, if_pos hi]
   rw [this] at e2
   cases e2
  ·obtain ⟨d, rfl⟩ : ∃ d, i = k + d := ⟨i - k, by omega⟩
   have e2' : (frV σ js)[d]? = some (some v) := by
    unfold stLC at e2
    rw [List.getElem?_append_right (by simp)] at e2
    simpa using e2
   unfold frV at e2'
   rw [List.getElem?_map] at e2'
   cases ej : js[d]? with
   | none => rw [ej] at e2'; cases e2'
   | some j =>
    rw [ej] at e2'
    have ev : (σ[j]?).join = some v := Option.some.inj e2'
    have ev' : σ[j]? = some (some v) := by
     cases q : σ[j]? with
     | none => rw [q] at ev; cases ev
     | some z => rw [q] at ev; rw [show z = some v from ev]
    obtain ⟨x', n1, n2, n3⟩ := S.look d j ej
    have : x' = x := Option.some.inj (n1.symm.trans e1)
    subst this
    obtain ⟨m, hn, hl⟩ := I.loc
    have hkx := S.frees _ (lookup_mem n3) rfl
    have hvis : Vis X.env.scope x' := by
     rcases hkx with q | q
     ·exact .inr (.inl q)
     ·exact .inr (.inr q)
    obtain ⟨u, r, l⟩ := hl j x' v n2 ev' hvis
    refine ⟨u, r, ?_⟩
    obtain ⟨c, hc⟩ := hcl2 _ (lookup_mem n3) rfl
    rcases l with ⟨l1, _⟩ | ⟨l1, c', l2, l3⟩
    ·rcases hkx with q | q
     ·exact absurd (l1.symm.trans q) (by decide)
     ·exact absurd (l1.symm.trans q) (by decide)
    ·have : c' = c := Option.some.inj (l2.symm.trans (hcl1 _ c hc))
     subst this
     refine .inr ⟨?_, c', hc, ?_⟩
     ·have q := lkL x'
      rw [n3] at q
      by_cases hb : ((NameKind.free == NameKind.free && X.env.scope.kind == .function && X.env.kindOf x' == some .cell)) = true
      ·left
       show (compEnvC scope cl s.heap.objs.size X.env).kindOf x' = _
       rw [q]
       simp only [Option.map_some]
       rw [if_pos hb]
      ·right
       show (compEnvC scope cl s.heap.objs.size X.env).kindOf x' = _
       rw [q]
       simp only [Option.map_some]
       rw [if_neg hb]
     ·obtain ⟨o, ho, hd⟩ := l3
      exact ⟨o, hk _ o ho, hd⟩
 ·obtain ⟨v, o, ho, hd⟩ := I.cell x c (hcl1 x c h)
  exact ⟨v, o, hk _ o ho, hd⟩
 ·exact I.hok.fresh (Nat.le_refl _)
 ·have hp' : p ∈ X.pn ++ pins := by simpa [cxLC] using hp
  obtain ⟨e, n, ne, nf, d⟩ := I.pin p hp'
  exact ⟨hk _ _ e, n, Nat.ne_of_lt (Heap.lt_size e), fun z => (List.mem_cons.mp (I.stkSub _ z)).elim ne nf, d⟩
 ·show (stLC σ k js).length = N.length
  unfold stLC frV
  rw [S.len]
  simp
end
end L2
set_option Elab.async false
set_option linter.all false
set_option maxRecDepth 100000
namespace L2
open PySem PySem.Spec PyProof.Rows
noncomputable def PIfs (X : Cx) (ifs : List Expr) (t : TT) : Prop :=
 ∀ (pins : List (Addr × Obj)) (s : Shared) (σ : St) (H : Hp) (Q : Bool → Hp → Prop), Inv X pins σ H s → t σ H Q →
  wpAny (model X.prog X.w) X.A (forIn ifs true fun c r => if r = true then do let ok ← isTrue c X.env (eval c X.env); pure (ForInStep.yield ok) else pure (ForInStep.yield r)) (TP X pins σ Q) X.xe s
noncomputable def tYes : TT := fun _ H Q => Q true H
theorem pifs_nil {X : Cx} : PIfs X [] tYes := fun _ _ _ H _ I h => wpAny_tests_nil ⟨H, I, h⟩
theorem pifs_one {X : Cx} {c : Expr} {t : TT} (h : PT X c t) : PIfs X [c] t := fun pins s σ H Q I hw => wpAny_tests_one (h pins s σ H Q I hw)
noncomputable def tLC (wi : TI) (k : Nat) (js : List Nat) (g : TG) (tt : TT) (te : TE) : TE := fun σ H Q => wi σ H fun J H1 => ∀ D, H1 D = none →
 ∃ W : Nat → Nat → List V → Hp → Prop, (∃ m, W 0 m [] (upd H1 D (.lst []))) ∧ ∀ i m ys H, W i m ys H → H D = some (.lst ys) ∧
  ((J.stop i H ∧ Q (.ref D) H) ∨ (J.go i H ∧ ys.length < sizeLine ∧ ∃ N : List V → Hp → Prop, (∀ ys' H', N ys' H' → ∃ m', m' < m ∧ W (i + 1) m' ys' H') ∧
   ∀ x H', J.yld i H x H' → g x (stLC σ k js) H' fun σ2 H2 => (σ2.drop k = frV σ js ∧ σ2.length = k + js.length) ∧ tt σ2 H2 fun b H3 => if b = true then te σ2 H3 fun y H4 => H4 D = some (.lst ys) ∧ N (ys ++ [y]) (upd H4 D (.lst (ys ++ [y]))) else N ys H3))
section
variable {X : Cx} {scope : Scope} {N : List Str} {k : Nat} {js : List Nat} {elt iter tg : Expr} {ifs : List Expr} {pos : Pos} {wi : TI} {g : TG} {tt : TT} {te : TE}
theorem lc_keep {σ σ2 : St} (h1 : σ2.drop k = frV σ js) (h2 : σ2.length = k + js.length) (i : Nat) (v : V) (h : (stLC σ k js)[i]? = some (some v)) : σ2[i]? = some (some v) := by
 unfold stLC at h
 by_cases hi : i < k
 ·rw [List.getElem?_append_left (by simpa using hi), List.getElem?_replicate, if_pos hi] at h
  cases h
 ·rw [List.getElem?_append_right (by simpa using hi), ← h1, List.getElem?_drop] at h
  simp only [List.length_replicate] at h
  rw [show k + (i - k) = i by omega] at h
  exact h
theorem lc_block {pins : List (Addr × Obj)} {σ : St} {H : Hp} {s : Shared} {cl : List (Str × Addr)} {Q : VK} {it : Addr} {fp : List Addr} {tn : Nat → Heap → Prop} {J : It} {RR : Value → Addr → Result → Shared → Prop}
  (S : CScope X scope N k js) (hc : X.calm = true)
  (hg : ∀ cl C s H ex pn, PG (cxLC X scope cl N C s H ex pn) tg g) (ht : ∀ cl C s H ex pn, PIfs (cxLC X scope cl N C s H ex pn) ifs tt) (he : ∀ cl C s H ex pn, PE (cxLC X scope cl N C s H ex pn) elt te)
  (hcl1 : ∀ x c, cl.lookup x = some c → X.env.cells.lookup x = some c) (hcl2 : ∀ y ∈ scope.names, y.2 = .free → ∃ c, cl.lookup y.1 = some c)
  (I : Inv X pins σ H s) (T : Turn X.prog X.w X.K tg J fp it tn) (hst : tn 0 s.heap) (hf : ∀ b ∈ fp, FpOk X pins H b)
  (hr : ∀ D, H D = none →
   ∃ W : Nat → Nat → List V → Hp → Prop, (∃ m, W 0 m [] (upd H D (.lst []))) ∧ ∀ i m ys H, W i m ys H → H D = some (.lst ys) ∧
    ((J.stop i H ∧ Q (.ref D) H) ∨ (J.go i H ∧ ys.length < sizeLine ∧ ∃ N : List V → Hp → Prop, (∀ ys' H', N ys' H' → ∃ m', m' < m ∧ W (i + 1) m' ys' H') ∧
     ∀ x H', J.yld i H x H' → g x (stLC σ k js) H' fun σ2 H2 => (σ2.drop k = frV σ js ∧ σ2.length = k + js.length) ∧ tt σ2 H2 fun b H3 => if b = true then te σ2 H3 fun y H4 => H4 D = some (.lst ys) ∧ N (ys ++ [y]) (upd H4 D (.lst (ys ++ [y]))) else N ys H3)))
  (hend : ∀ D C H' s' m, Inv X pins σ H' s' → s'.heap.Ns C m → H' C = none → C ≠ X.env.locals → C ∉ frs X.stack → X.s₀.heap.objs.size ≤ C → (∀ x c, X.env.cells.lookup x = some c → c ≠ C) → (∀ p ∈ X.pn ++ pins, p.1 ≠ C) → D ≠ C → Q (.ref D) H' → RR (.ref D) C (.ok .next) s')
  {E : Value → Shared → Prop} :
  wpAny (model X.prog X.w) X.A (newList []) (fun acc s₃ => wpAny (model X.prog X.w) X.A (newFunctionEnv scope X.env.globals cl [] X.env.qual none .none (some X.env)) (fun cenv s₄ =>
   codeAny (model X.prog X.w) X.A (.compStart (.ListComp elt [⟨tg, iter, ifs, 0⟩] scope pos) 0 (.ref it) acc { cenv with scope := relabel scope X.env }) (RR acc cenv.locals) s₄) E s₃) E s := by
 refine wpAny_newObj_type (wpAny_newFunctionEnv S.nocell (by intro y hy; simp at hy) (fun h₁ hns₁ hsb₁ => ?_) S.kind)
 dsimp only at hns₁ hsb₁ ⊢
 have hD : H s.heap.objs.size = none := I.fresh
 obtain ⟨W, ⟨m0, w0⟩, turn⟩ := hr s.heap.objs.size hD
 have I2 : Inv X pins σ (upd H s.heap.objs.size (.lst [])) { s with heap := s.heap.push { cls := .type "list", dict := none, data := .seq ([] : List Value).toArray }, toks := s.toks } := I.lnew (its := []) .nil (Nat.zero_le _)
 generalize hH2 : s.heap.push { cls := .type "list", dict := none, data := .seq ([] : List Value).toArray } = H2 at hns₁ hsb₁ I2 ⊢
 have hsz : H2.objs.size = s.heap.objs.size + 1 := by rw [← hH2, Heap.size_push]
 generalize hs3 : ({ s with heap := H2, toks := s.toks } : Shared) = s3 at I2
 have hs3h : s3.heap = H2 := by rw [← hs3]
 have old : ∀ b o, s.heap.get? b = some o → H2.get? b = some o := fun b o e => by rw [← hH2]; exact Heap.get?_push_of_some _ e
 have old1 : ∀ b o, H2.get? b = some o → h₁.get? b = some o := fun b o e => hsb₁.extBut b o (Nat.ne_of_lt (Heap.lt_size e)) (Heap.get?_push_of_some _ e)
 have hfH : ∀ b ∈ fp, ∃ o, s.heap.get? b = some o ∧ ∀ v, o.data ≠ .cell v := T.obj 0 _ hst
 have ff : ∀ b ∈ fp, FpOk X pins (upd H s.heap.objs.size (.lst [])) b := fun b hb => by
  obtain ⟨f0, fr⟩ := hf b hb
  obtain ⟨o, ho, _⟩ := hfH b hb
  exact ⟨by rw [upd_ne (Nat.ne_of_lt (Heap.lt_size ho))]; exact f0, fr⟩
 have hns' : h₁.Ns s3.heap.objs.size (fun _ => none) := by
  rw [hs3h]
  simpa using hns₁
 have J0 : Inv (cxLC X scope cl N s3.heap.objs.size s3 (upd H s.heap.objs.size (.lst [])) fp (X.pn ++ pins)) [] (stLC σ k js) (upd H s.heap.objs.size (.lst [])) { s3 with heap := h₁, toks := s.toks + ([] : List (Str × Value)).length } :=
  I2.block (fp := fp) (tk := s.toks + ([] : List (Str × Value)).length) S hcl1 hcl2 hns' (fun b o e => old1 b o (by rw [← hs3h]; exact e)) ff (fun b hb => by
   obtain ⟨o, ho, hd⟩ := hfH b hb
   exact ⟨o, by rw [hs3h]; exact old b o ho, hd⟩)
 have es3 : ({ s3 with heap := h₁, toks := s.toks + ([] : List (Str × Value)).length } : Shared) = { s with heap := h₁, toks := s.toks + ([] : List (Str × Value)).length } := by rw [← hs3]
 rw [es3] at J0
 have hst1 : tn 0 h₁ := T.keep 0 _ _ hst fun b hb o e => old1 b o (old b o e)
 generalize hY : cxLC X scope cl N s3.heap.objs.size s3 (upd H s.heap.objs.size (.lst [])) fp (X.pn ++ pins) = Y at J0
 have eA : Y.A = X.A := by rw [← hY]; rfl
 have eP : Y.prog = X.prog := by rw [← hY]; rfl
 have eW : Y.w = X.w := by rw [← hY]; rfl
 have eK : Y.K = X.K := by rw [← hY]; rfl
 have eE : Y.env = compEnvC scope cl H2.objs.size X.env := by rw [← hY, ← hs3h]; rfl
 have eX : Y.xe = fun _ _ => False := by rw [← hY]; rfl
 have eC : Y.calm = true := by rw [← hY]; exact hc
 have stat : ∀ {H' : Hp}, (∀ b ∈ fp, H' b = none) → ∀ b ∈ fp, FpOk Y [] H' b := fun hn b hb => by
  obtain ⟨f0, f1, f2, f3, f4, f5⟩ := hf b hb
  obtain ⟨o, ho, _⟩ := hfH b hb
  refine ⟨hn b hb, ?_, ?_, .inl (by rw [← hY]; exact hb), fun x c h => ?_, fun p hp => ?_⟩
  ·rw [eE]
   exact Nat.ne_of_lt (Nat.lt_of_lt_of_le (Heap.lt_size ho) (by rw [hsz]; exact Nat.le_succ _))
  ·rw [← hY]
   intro z
   rcases List.mem_cons.mp (I.stkSub b z) with q | q
   ·exact f1 q
   ·exact f2 q
  ·rw [eE] at h
   exact f4 x c (hcl1 x c h)
  ·rw [← hY] at hp
   exact f5 p (by simpa [cxLC] using hp)
 have loop : ∀ s₂ : Shared, s₂ = { s with heap := h₁, toks := s.toks + ([] : List (Str × Value)).length } →
   codeAny (model X.prog X.w) X.A (.compLoop (.ListComp elt [⟨tg, iter, ifs, 0⟩] scope pos) 0 (.ref it) (.ref s.heap.objs.size) (compEnvC scope cl H2.objs.size X.env)) (RR (.ref s.heap.objs.size) H2.objs.size) s₂ := by
  rintro s₂ rfl
  have noE : ∀ (e : Value) (s' : Shared), False → notedBy (model X.prog X.w) X.A (compEnvC scope cl H2.objs.size X.env) (fun e s' => RR (.ref s.heap.objs.size) H2.objs.size (.error e) s') e s' := fun _ _ z => z.elim
  -- one turn, by hand: the step ahead of the store is the iterator's
  refine codeAny_loop rfl (fun n s' => ∃ i H' ys, Inv Y [] (stLC σ k js) H' s' ∧ tn i s'.heap ∧ (∀ b ∈ fp, H' b = none) ∧ W i n ys H') (fun n s5 hI => ?_) m0 ⟨0, _, [], J0, hst1, fun b hb => (ff b hb).1, w0⟩
  obtain ⟨i, H5, ys, I5, st5, fr5, w5⟩ := hI
  show wpAny _ X.A ((compTurn (.ListComp elt [⟨tg, iter, ifs, 0⟩] scope pos) 0 (.ref it) (.ref s.heap.objs.size) (compEnvC scope cl H2.objs.size X.env)).onRaise (fun x => do noteFrame x (compEnvC scope cl H2.objs.size X.env); theTreesLotGoes x)) _ _ s5
  refine wpAny_noted ?_
  rw [compTurn_list]
  refine wpAny_bind (wpAny_standAt (wpAny_bind ?_))
  obtain ⟨hDy, tr⟩ := turn i n ys H5 w5
  rcases tr with ⟨stop, q⟩ | ⟨go, hlen, NN, hN, step⟩
  ·have h6 := T.done Y eP eW eK eC i [] s5 _ H5 (fun _ _ => False) I5 (stat fr5) st5 stop
   rw [eA] at h6
   refine wpAny_mono h6 (fun r s6 h => ?_) noE
   obtain ⟨rfl, I6⟩ := h
   refine wpAny_pure ?_
   obtain ⟨m6, hn6, _⟩ := I6.loc
   rw [eE] at hn6
   have hu : Un (frs X.stack) fp (upd H s.heap.objs.size (.lst [])) H5 s3.heap s6.heap := by
    have := I6.base
    rw [← hY] at this
    exact this
   have hok6 : HOk X.prog X.w H5 s6.heap := by
    have := I6.hok
    rw [eP, eW] at this
    exact this
   have I7 : Inv X pins σ H5 s6 := I2.call' (ch := fp) (by have := I6.os; rw [← hY] at this; exact this) hu hok6 I6.bare fun b hb => by
    obtain ⟨f0, f1, f2, f3, f4, f5⟩ := hf b hb
    exact ⟨f3, f1, f4, f5⟩
   have hfree : H5 H2.objs.size = none := by
    have := I6.free
    rw [eE] at this
    exact this
   refine hend _ _ H5 s6 m6 I7 hn6 hfree ?_ ?_ ?_ ?_ ?_ ?_ q
   ·rw [← hs3h]; exact Nat.ne_of_gt I2.lt
   ·rw [← hs3h]
    intro z
    rcases List.mem_cons.mp (I2.stkSub _ z) with q | q
    ·exact absurd q (Nat.ne_of_gt I2.lt)
    ·exact I2.nofs (Nat.le_refl _) q
   ·rw [← hs3h]; exact I2.sz
   ·intro x c h z
    obtain ⟨v, hv⟩ := I2.cell x c h
    have := hv.lt
    rw [hs3h, z] at this
    exact absurd this (Nat.lt_irrefl _)
   ·intro p hp z
    have := Heap.lt_size (I2.pin p hp).1
    rw [hs3h, z] at this
    exact absurd this (Nat.lt_irrefl _)
   ·rw [hsz]; exact Nat.ne_of_lt (Nat.lt_succ_self _)
  ·have h6 := T.item Y eP eW eK eC i [] s5 _ H5 (fun _ _ => False) I5 (stat fr5) st5 go
   rw [eA] at h6
   refine wpAny_mono h6 (fun r s6 h => ?_) noE
   obtain ⟨u, rfl, h7⟩ := h
   refine wpAny_bind (wpAny_mono h7 (fun _ s7 h => ?_) noE)
   obtain ⟨x, H7, I7, rx, y7, st7, fr7⟩ := h
   have I7' := I7.pinned (stat fr7) (T.obj _ _ st7)
   have h8 := hg cl s3.heap.objs.size s3 (upd H s.heap.objs.size (.lst [])) fp (X.pn ++ pins)
   rw [hY] at h8
   have h8 := h8 _ s7 _ H7 x u _ I7' rx (step x H7 y7)
   rw [eP, eW, eA, eE, eX] at h8
   refine wpAny_bind (wpAny_mono h8 (fun _ s8 h => ?_) noE)
   obtain ⟨σ8, H8, I8, ⟨k1, k2⟩, q8⟩ := h
   have h9 := ht cl s3.heap.objs.size s3 (upd H s.heap.objs.size (.lst [])) fp (X.pn ++ pins)
   rw [hY] at h9
   have h9 := h9 _ s8 σ8 H8 _ I8 q8
   rw [eP, eW, eA, eE, eX] at h9
   refine wpAny_bind (wpAny_mono h9 (fun ok s9 h => ?_) noE)
   obtain ⟨H9, I9, q9⟩ := h
   have again : ∀ {H' : Hp} {ys' : List V} {s' : Shared}, Inv Y ([] ++ pinsAt fp s7.heap) σ8 H' s' → NN ys' H' → ∃ m, m < n ∧ ∃ i H' ys, Inv Y [] (stLC σ k js) H' s' ∧ tn i s'.heap ∧ (∀ b ∈ fp, H' b = none) ∧ W i m ys H' := fun {H' ys' s'} I' n' => by
    obtain ⟨m', hm, w'⟩ := hN ys' H' n'
    refine ⟨m', hm, i + 1, H', ys', (I'.unpinned).weak (by unfold stLC frV; rw [k2]; simp) (fun j v h => lc_keep k1 k2 j v h), T.keep _ _ _ st7 fun b hb o e => (I'.pin (b, o) (List.mem_append_right _ (List.mem_append_right _ (mem_pinsAt hb e)))).1, fun b hb => ?_, w'⟩
    obtain ⟨o, e, d⟩ := T.obj _ _ st7 b hb
    exact (I'.pin (b, o) (List.mem_append_right _ (List.mem_append_right _ (mem_pinsAt hb e)))).2.1
   cases ok with
   | false =>
    rw [if_neg Bool.false_ne_true] at q9
    exact wpAny_pure ⟨rfl, again I9 q9⟩
   | true =>
    rw [if_pos rfl] at q9
    have h10 := he cl s3.heap.objs.size s3 (upd H s.heap.objs.size (.lst [])) fp (X.pn ++ pins)
    rw [hY] at h10
    have h10 := h10 _ s9 σ8 H9 _ I9 q9
    rw [eP, eW, eA, eE, eX] at h10
    refine wpAny_bind (wpAny_bind (wpAny_mono h10 (fun y s10 h => ?_) noE))
    obtain ⟨yv, H10, I10, ry, e10, n10⟩ := h
    have h11 := mt_append (X := Y) _ s10 σ8 H10 (.ref s.heap.objs.size) [yv] (.ref s.heap.objs.size) [y] (fun _ H' => NN (ys ++ [yv]) H') I10 rfl (.cons ry .nil) ⟨_, ys, yv, rfl, rfl, e10, hlen, n10⟩
    rw [eP, eW, eA, eX] at h11
    refine wpAny_bind (wpAny_mono h11 (fun _ s11 h => ?_) noE)
    obtain ⟨_, H11, I11, _, n11⟩ := h
    exact wpAny_pure (wpAny_pure ⟨rfl, again I11 n11⟩)
 exact codeAny_compStart_list (loop _ rfl) (T.self X.A 0 _ _ _ hst1 (loop _ rfl))
end
end L2
namespace L2
open PySem PySem.Spec PyProof.Rows
section
variable {X : Cx} {scope : Scope} {N : List Str} {k : Nat} {js : List Nat} {elt iter tg : Expr} {ifs : List Expr} {pos : Pos} {wi : TI} {g : TG} {tt : TT} {te : TE}
theorem CScope.closure {pins : List (Addr × Obj)} {σ : St} {H : Hp} {s : Shared} (S : CScope X scope N k js) (I : Inv X pins σ H s) :
  ∃ cl, closureFor scope X.env = pure cl ∧ (∀ x c, cl.lookup x = some c → X.env.cells.lookup x = some c) ∧ (∀ y ∈ scope.names, y.2 = .free → ∃ c, cl.lookup y.1 = some c) :=
 closureFor_ok fun y hy hf => I.ok.has y.1 (S.frees y hy hf)
theorem pe_lc (S : CScope X scope N k js) (hc : X.calm = true) (hi : PI X tg iter wi)
  (hg : ∀ cl C s H ex pn, PG (cxLC X scope cl N C s H ex pn) tg g) (ht : ∀ cl C s H ex pn, PIfs (cxLC X scope cl N C s H ex pn) ifs tt) (he : ∀ cl C s H ex pn, PE (cxLC X scope cl N C s H ex pn) elt te)
  (hs : ∀ x, foldedSetIterable iter X.env x = pure x := by intro _; rfl) : PE X (.ListComp elt [⟨tg, iter, ifs, 0⟩] scope pos) (tLC wi k js g tt te) := by
 intro pins s σ H Q I h
 obtain ⟨cl, hclos, hcl1, hcl2⟩ := S.closure I
 rw [eval_ListComp]
 refine wpAny_comprehension_free (use := none) rfl hs hclos S.kind S.names (thn (hi pins s σ H _ I h) fun v s1 h1 => thn h1 fun itv s2 h2 => ?_)
 obtain ⟨it, fp, tn, J, H2, rfl, I2, T, st2, f2, hr⟩ := h2
 refine lc_block (Q := Q) (RR := fun acc C => compPost (model X.prog X.w) X.A X.xe none (EP X pins σ Q) acc C) S hc hg ht he hcl1 hcl2 I2 T st2 f2 hr ?_
 intro D C H' s' m I' hn h0 hL hF hz hcell hpin hDC q
 refine ⟨m, hn, fun h' sb => ⟨.ref D, H', ?_, rfl, q⟩⟩
 exact I'.turned (t' := s'.toks) (fun b o hb e => (sb.2 b hb).trans e) h0 hL (.inr hz) hcell hpin
end
end L2
namespace L2
open PySem PySem.Spec PyProof.Rows
section
variable {X : Cx} {scope : Scope} {N : List Str} {k : Nat} {js : List Nat} {elt iter tg : Expr} {ifs : List Expr} {pos : Pos} {wi : TI} {g : TG} {tt : TT} {te : TE}
theorem ps_lc {i : Nat} {y : Str} {py spos : Pos} (S : CScope X scope N k js) (hc : X.calm = true) (hi : PI X tg iter wi)
  (hg : ∀ cl C s H ex pn, PG (cxLC X scope cl N C s H ex pn) tg g) (ht : ∀ cl C s H ex pn, PIfs (cxLC X scope cl N C s H ex pn) ifs tt) (he : ∀ cl C s H ex pn, PE (cxLC X scope cl N C s H ex pn) elt te)
  (hN : X.N.Nodup) (hix : X.N[i]? = some y) (hy : X.env.scope.names.lookup y = some .local)
  (hsw : swapsWith (.ListComp elt [⟨tg, iter, ifs, 0⟩] scope pos) (some (.Name y py)) spos.line X.env = pure true := by rfl)
  (hs : ∀ x, foldedSetIterable iter X.env x = pure x := by intro _; rfl) : PS X (.Assign [.Name y py] (.ListComp elt [⟨tg, iter, ifs, 0⟩] scope pos) spos) (tAsg (tLC wi k js g tt te) (gName i)) := by
 intro pins s σ H D0 I h
 obtain ⟨cl, hclos, hcl1, hcl2⟩ := S.closure I
 rw [exec_Assign_Name_used _ _ _ _ hsw]
 refine wpAny_bind (wpAny_standAt (wpAny_bind ?_))
 show wpAny _ X.A (do let _ ← comprehension (.ListComp elt [⟨tg, iter, ifs, 0⟩] scope pos) scope X.env _ (newList []) false (eval iter X.env) (some (assign (.Name y py) X.env))) _ _ s
 refine wpAny_bind (wpAny_mono (wpAny_comprehension_free (use := some (assign (.Name y py) X.env)) (Q := fun _ s' => SP X pins D0 .next s') rfl hs hclos S.kind S.names
  (thn (hi pins s σ H _ I h) fun v s1 h1 => thn h1 fun itv s2 h2 => ?_)) (fun _ s' hq => wpAny_pure (wpAny_pure hq)) fun _ _ e => e)
 obtain ⟨it, fp, tn, J, H2, rfl, I2, T, st2, f2, hr⟩ := h2
 refine lc_block (Q := fun v H' => D0.nx (σ.set i (some v)) H') (RR := fun acc C => compPost (model X.prog X.w) X.A X.xe (some (assign (.Name y py) X.env)) (fun _ s' => SP X pins D0 .next s') acc C) S hc hg ht he hcl1 hcl2 I2 T st2 f2 hr ?_
 intro D C H' s' m I' hn h0 hL hF hz hcell hpin hDC q
 show wpAny _ X.A (assign (.Name y py) X.env (.ref D)) _ _ _
 refine wpAny_assign_Name (store_ok2 I' hN hix (.inl hy) (v := .ref D) rfl (fun s'' I'' hsb => ?_) (.inr hy))
 obtain ⟨a, sb, ha⟩ := hsb
 have haC : C ≠ a := by
  rcases ha with rfl | ha
  ·exact hL
  ·exact fun z => hcell y a ha z.symm
 refine ⟨m, hn.sameBut sb haC, fun h' sb' => ⟨σ.set i (some (.ref D)), H', ?_, q⟩⟩
 exact I''.turned (t' := s''.toks) (fun b o hb e => (sb'.2 b hb).trans e) h0 hL (.inr hz) hcell hpin
end
end L2
set_option Elab.async false
set_option linter.all false
set_option maxRecDepth 100000
namespace L2
open PySem PySem.Spec PyProof.Rows
section
variable {X : Cx}
theorem vals_bl : ∀ {bs : List Bool} {us : List Value}, Vals (bs.map V.bl) us → us = bs.map Value.bool
 | [], _, .nil => rfl
 | b :: r, _, .cons h t => by
  rw [show _ = Value.bool b from h, vals_bl t]
  rfl
end
mutual
inductive Rdy (K : PySem.W.Frag) (H : Hp) : V → PyData → Prop
 | non : Rdy K H .non .none
 | bl (b : Bool) : Rdy K H (.bl b) (.bool b)
 | int (i : Int) : Rdy K H (.int i) (.int i)
 | str (x : Str) : Rdy K H (.str x) (.str x)
 | tup {a : Addr} {xs : List V} {ds : List PyData} : SqT K H a xs → RdyAll K H xs ds → Rdy K H (.ref a) (.tuple ds)
 | lst {a : Addr} {xs : List V} {ds : List PyData} : SqL K H a xs → RdyAll K H xs ds → Rdy K H (.ref a) (.list ds)
inductive RdyAll (K : PySem.W.Frag) (H : Hp) : List V → List PyData → Prop
 | nil : RdyAll K H [] []
 | cons {x : V} {xs : List V} {d : PyData} {ds : List PyData} : Rdy K H x d → RdyAll K H xs ds → RdyAll K H (x :: xs) (d :: ds)
end
section
variable {X : Cx} {pins : List (Addr × Obj)} {σ : St} {H : Hp} {s : Shared}
mutual
theorem Rdy.reads (I : Inv X pins σ H s) : ∀ {x : V} {d : PyData}, Rdy X.K H x d → ∀ {u : Value}, RelV x u → ∃ as, Reads s.heap u d as
 | _, _, .non, u, r => by cases (show u = Value.none from r); exact ⟨_, .none⟩
 | _, _, .bl b, u, r => by cases (show u = Value.bool b from r); exact ⟨_, .bool b⟩
 | _, _, .int i, u, r => by obtain ⟨t, rfl⟩ := (show ∃ t, u = Value.int i t from r); exact ⟨_, .int i t⟩
 | _, _, .str x, u, r => by obtain ⟨t, rfl⟩ := (show ∃ t, u = Value.str x t from r); exact ⟨_, .str x t⟩
 | _, _, @Rdy.tup _ _ a xs ds hq ha, u, r => by
  cases (show u = Value.ref a from r)
  obtain ⟨its, rv, ⟨o, ho, hc, n, hd⟩, hz⟩ := I.tuple hq
  obtain ⟨as, ra⟩ := RdyAll.reads I ha rv
  exact ⟨_, .tuple ho hc hd (by simpa using ra)⟩
 | _, _, @Rdy.lst _ _ a xs ds hq ha, u, r => by
  cases (show u = Value.ref a from r)
  obtain ⟨its, rv, ⟨o, n, ho, hc, _, hd⟩, hz⟩ := I.list hq
  obtain ⟨as, ra⟩ := RdyAll.reads I ha rv
  exact ⟨_, .list ho hc hd (by simpa using ra)⟩
theorem RdyAll.reads (I : Inv X pins σ H s) : ∀ {xs : List V} {ds : List PyData}, RdyAll X.K H xs ds → ∀ {us : List Value}, Vals xs us → ∃ as, ReadsAll s.heap us ds as
 | _, _, .nil, _, .nil => ⟨_, .nil⟩
 | _, _, .cons h t, _, .cons r rs => by
  obtain ⟨as, h1⟩ := Rdy.reads I h r
  obtain ⟨bs, h2⟩ := RdyAll.reads I t rs
  exact ⟨_, .cons h1 h2⟩
end
end
section
variable {X : Cx}
open PySem.SeqAt in
noncomputable def rEqD (K : PySem.W.Frag) (f : Bool → Bool) : R2 := fun x y H Q => ∃ d e, Rdy K H x d ∧ Rdy K H y e ∧ shaped d = true ∧ shaped e = true ∧ Q (.bl (f (PyData.eqv d e))) H
theorem op_eqD (hu : X.A.units + 64 < cLine) : OpR X (compareOp .Eq) (rEqD X.K id) := by
 intro pins s σ H x y v u Q I rx ry h
 obtain ⟨d, e, hd, he, sd, se, q⟩ := h
 obtain ⟨as, ra⟩ := hd.reads I rx
 obtain ⟨bs, rb⟩ := he.reads I ry
 exact eq_dataH ra rb sd se hu ⟨.bl _, H, I, rfl, q⟩
theorem op_neD (hu : X.A.units + 64 < cLine) : OpR X (compareOp .NotEq) (rEqD X.K not) := by
 intro pins s σ H x y v u Q I rx ry h
 obtain ⟨d, e, hd, he, sd, se, q⟩ := h
 obtain ⟨as, ra⟩ := hd.reads I rx
 obtain ⟨bs, rb⟩ := he.reads I ry
 exact ne_dataH ra rb sd se hu ⟨.bl _, H, I, rfl, q⟩
end
noncomputable def Ext (H H' : Hp) : Prop := ∀ b o, H b = some o → H' b = some o
theorem Ext.refl (H : Hp) : Ext H H := fun _ _ h => h
theorem Ext.trans {H H1 H2 : Hp} (a : Ext H H1) (b : Ext H1 H2) : Ext H H2 := fun c o h => b c o (a c o h)
theorem Ext.upd {H : Hp} {p : Addr} {o : HO} (h : H p = none) : Ext H (upd H p o) := fun b u e => by rw [upd_ne (ne_of_none e h)]; exact e
theorem Ext.then {H H1 : Hp} {p : Addr} {o : HO} (a : Ext H H1) (h : H1 p = none) : Ext H (L2.upd H1 p o) := a.trans (Ext.upd h)
theorem Ext.none {H H' : Hp} (e : Ext H H') {l : Addr} (h : H' l = .none) : H l = .none := by
 cases q : H l with
 | none => rfl
 | some o => rw [e l o q] at h; cases h
theorem Ext.sqT {K : PySem.W.Frag} {H H' : Hp} {a : Addr} {xs : List V} (e : Ext H H') (h : SqT K H a xs) : SqT K H' a xs := by
 rcases h with (h | ⟨o, h⟩) | h
 ·exact .inl (.inl (e _ _ h))
 ·exact .inl (.inr ⟨o, e _ _ h⟩)
 ·exact .inr h
theorem Ext.sqL {K : PySem.W.Frag} {H H' : Hp} {a : Addr} {xs : List V} (e : Ext H H') (h : SqL K H a xs) : SqL K H' a xs := by
 rcases h with (h | ⟨o, h⟩) | h
 ·exact .inl (.inl (e _ _ h))
 ·exact .inl (.inr ⟨o, e _ _ h⟩)
 ·exact .inr h
mutual
theorem Rdy.ext {K : PySem.W.Frag} {H H' : Hp} (e : Ext H H') : ∀ {x : V} {d : PyData}, Rdy K H x d → Rdy K H' x d
 | _, _, .non => .non
 | _, _, .bl b => .bl b
 | _, _, .int b => .int b
 | _, _, .str b => .str b
 | _, _, .tup h t => .tup (e.sqT h) (RdyAll.ext e t)
 | _, _, .lst h t => .lst (e.sqL h) (RdyAll.ext e t)
theorem RdyAll.ext {K : PySem.W.Frag} {H H' : Hp} (e : Ext H H') : ∀ {xs : List V} {ds : List PyData}, RdyAll K H xs ds → RdyAll K H' xs ds
 | _, _, .nil => .nil
 | _, _, .cons h t => .cons (Rdy.ext e h) (RdyAll.ext e t)
end
end L2
set_option Elab.async false
set_option linter.all false
set_option maxRecDepth 100000
namespace L2
open PySem PySem.Spec PyProof.Rows
structure FnB (P : Program) (w : World) (K : PySem.W.Frag) (mg : Str → Option Value) (base : Heap) (CX : CXT) (k : Nat) (x : Str) (ps : List Str) (sp : Sp) : Prop where
 ex : ∃ f fd, FnOk P w K mg base CX k f fd ps sp ∧ mg x = some (.ref f) ∧ PySem.W.keepIn K (.ref f) = true ∧ Binds K fd ps []
section
variable {X : Cx} {CX : CXT} {k : Nat} {ps : List Str} {sp : Sp} {E : XK} {x : Str} {p pos : Pos} {e : Expr} {es : List Expr} {t : TA}
theorem pe_fn (F : FnB X.prog X.w X.K X.mg X.base CX k x ps sp) (hr : Room k X.A) (hg : Gl X x) (hx : Passes CX X E)
  (ha : PA X (e :: es) t) (hdb : (x == ("__debug__" : Str)) = false := by decide) (he : starEach (e :: es) X.env = (false, eval e X.env) :: starEach es X.env := by rfl) (hpl : (backTo pos (starEach es X.env)).any (·.1) = false := by rfl) :
  PE X (.Call (.Name x p) (e :: es) [] pos) (tCall sp [] E t) := by
 obtain ⟨f, fd, h1, h2, h3, h4⟩ := F.ex
 exact pe_call h1 hr hg h2 h3 h4 .nil hx ha hdb he hpl
end
theorem FnB.of {P : Program} {w : World} {K : PySem.W.Frag} {mg : Str → Option Value} {base : Heap} {CX : CXT} {k : Nat} {x : Str} {ps : List Str} {sp : Sp} {f : Addr} {fd : FuncData} (h : FnOk P w K mg base CX k f fd ps sp) (m : mg x = some (.ref f)) (kp : PySem.W.keepIn K (.ref f) = true) (b : Binds K fd ps []) : FnB P w K mg base CX k x ps sp := ⟨f, fd, h, m, kp, b⟩
noncomputable def optK {α : Type} (o : Option α) (k : α → Prop) : Prop := match o with | some v => k v | none => False
noncomputable def seqOf (o : Option HO) : Option (List V) := match o with
 | some (.lst xs) => some xs
 | some (.tup xs) => some xs
 | _ => none
theorem seqOf_l (xs : List V) : seqOf (some (.lst xs)) = some xs := rfl
theorem seqOf_t (xs : List V) : seqOf (some (.tup xs)) = some xs := rfl
noncomputable def ixF : R2 := fun x y H Q => match x, y with
 | .ref p, .int i => optK (seqOf (H p)) fun xs => optK (atI xs i) fun v => Q v H
 | _, _ => False
theorem ix_F {X : Cx} : IxR X ixF := by
 intro value slice pins s σ H x y v u Q I rx ry q hs
 unfold ixF at q
 split at q
 ·rename_i p i
  cases e : H p with
  | none => rw [e] at q; exact q.elim
  | some o =>
   rw [e] at q
   cases o with
   | lst xs =>
    have q : optK (atI xs i) fun v => Q v H := q
    unfold optK at q
    split at q
    ·rename_i w hw
     exact ix_list value slice pins s σ H _ _ v u Q I rx ry ⟨p, xs, i, w, rfl, rfl, SqL.of e, hw, q⟩ hs
    ·exact q.elim
   | tup xs =>
    have q : optK (atI xs i) fun v => Q v H := q
    unfold optK at q
    split at q
    ·rename_i w hw
     exact ix_tup value slice pins s σ H _ _ v u Q I rx ry ⟨p, xs, i, w, rfl, rfl, SqT.of e, hw, q⟩ hs
    ·exact q.elim
   | _ => exact q.elim
 ·exact q.elim
theorem atI_0 {α : Type} (a : α) (l : List α) : atI (a :: l) 0 = some a := atI_nat (j := 0) rfl
theorem atI_1 {α : Type} (a b : α) (l : List α) : atI (a :: b :: l) 1 = some b := atI_nat (j := 1) rfl
theorem atI_2 {α : Type} (a b c : α) (l : List α) : atI (a :: b :: c :: l) 2 = some c := atI_nat (j := 2) rfl
theorem atI_3 {α : Type} (a b c d : α) (l : List α) : atI (a :: b :: c :: d :: l) 3 = some d := atI_nat (j := 3) rfl
theorem optK_some {α : Type} (a : α) (k : α → Prop) : optK (some a) k = k a := rfl
noncomputable def setF : V → V → V → Hp → (Hp → Prop) → Prop := fun o i v H Q => match o, i with
 | .ref p, .int k => (match H p with
  | some (.lst xs) => optK (ixN xs.length k) fun j => Q (upd H p (.lst (xs.set j v)))
  | _ => False)
 | _, _ => False
theorem set_F {X : Cx} : PSet X setF := by
 intro pins s σ H o i v ov iv u Q I ro ri rv q
 unfold setF at q
 split at q
 ·rename_i p k
  split at q
  ·rename_i xs e
   unfold optK at q
   split at q
   ·rename_i j hj
    exact set_list pins s σ H _ _ v ov iv u Q I ro ri rv ⟨p, xs, k, j, rfl, rfl, e, hj, q⟩
   ·exact q.elim
  ·exact q.elim
 ·exact q.elim
noncomputable def cscOk (dsc scope : Scope) (N0 N : List Str) (k : Nat) (js : List Nat) : Bool :=
 scope.kind == .function && scope.names.all (fun y => y.2 != .cell) && scope.names.all (fun y => y.2 != .local || scope.names.lookup y.1 == some .local) &&
 scope.names.all (fun y => y.2 != .free || dsc.names.lookup y.1 == some .cell || dsc.names.lookup y.1 == some .free) && N.length == k + js.length &&
 (List.range js.length).all (fun i => match js[i]? with | some j => (match N[k + i]? with | some x => N0[j]? == some x && scope.names.lookup x == some .free | none => false) | none => false)
theorem CScope.of_ok {X : Cx} {dsc scope : Scope} {N0 N : List Str} {k : Nat} {js : List Nat} (e : X.env.scope = dsc) (n : X.N = N0) (h : cscOk dsc scope N0 N k js = true) : CScope X scope N k js := by
 subst e n
 unfold cscOk at h
 simp only [Bool.and_eq_true, List.all_eq_true] at h
 obtain ⟨⟨⟨⟨⟨h1, h2⟩, h3⟩, h4⟩, h5⟩, h6⟩ := h
 refine ⟨by simpa using h1, fun y hy => by simpa using h2 y hy, fun y hy hl => ?_, fun y hy hl => ?_, by simpa using h5, fun i j hj => ?_⟩
 ·have := h3 y hy
  simpa [hl] using this
 ·have := h4 y hy
  simp only [hl, bne_self_eq_false, Bool.false_or, Bool.or_eq_true, beq_iff_eq] at this
  exact this
 ·have hi : i < js.length := (List.getElem?_eq_some_iff.mp hj).1
  have := h6 i (by simpa using hi)
  rw [hj] at this
  dsimp only at this
  cases q : N[k + i]? with
  | none => rw [q] at this; cases this
  | some x =>
   rw [q] at this
   simp only [Bool.and_eq_true, beq_iff_eq] at this
   exact ⟨x, rfl, this.1, this.2⟩
theorem lc_range {lo : Int} {n : Nat} {g : TG} {tt : TT} {te : TE} {k : Nat} {js : List Nat} {σ : St} {D : Addr} {Q : VK} {H : Hp} (Pv : Nat → List V → Hp → Prop) (h0 : Pv 0 [] (upd H D (.lst [])))
  (hn : n < sizeLine) (hl : ∀ i ys H, i ≤ n → Pv i ys H → H D = some (.lst ys) ∧ ys.length ≤ i)
  (hs : ∀ i ys H, i < n → Pv i ys H → g (.int (lo + i)) (stLC σ k js) H fun σ2 H2 => (σ2.drop k = frV σ js ∧ σ2.length = k + js.length) ∧ tt σ2 H2 fun b H3 => if b = true then te σ2 H3 fun y H4 => H4 D = some (.lst ys) ∧ Pv (i + 1) (ys ++ [y]) (upd H4 D (.lst (ys ++ [y]))) else Pv (i + 1) ys H3)
  (hd : ∀ ys H, Pv n ys H → Q (.ref D) H) :
  ∃ W : Nat → Nat → List V → Hp → Prop, (∃ m, W 0 m [] (upd H D (.lst []))) ∧ ∀ i m ys H, W i m ys H → H D = some (.lst ys) ∧
  (((Itr lo n).stop i H ∧ Q (.ref D) H) ∨ ((Itr lo n).go i H ∧ ys.length < sizeLine ∧ ∃ N : List V → Hp → Prop, (∀ ys' H', N ys' H' → ∃ m', m' < m ∧ W (i + 1) m' ys' H') ∧
   ∀ x H', (Itr lo n).yld i H x H' → g x (stLC σ k js) H' fun σ2 H2 => (σ2.drop k = frV σ js ∧ σ2.length = k + js.length) ∧ tt σ2 H2 fun b H3 => if b = true then te σ2 H3 fun y H4 => H4 D = some (.lst ys) ∧ N (ys ++ [y]) (upd H4 D (.lst (ys ++ [y]))) else N ys H3)) := by
 refine ⟨fun i m ys H => m = n - i ∧ i ≤ n ∧ Pv i ys H, ⟨n, by simp, Nat.zero_le _, h0⟩, ?_⟩
 rintro i m ys H ⟨rfl, hi, p⟩
 obtain ⟨e1, e2⟩ := hl i ys H hi p
 refine ⟨e1, ?_⟩
 by_cases hlt : i < n
 ·refine .inr ⟨hlt, by omega, Pv (i + 1), fun ys' H' p' => ⟨n - (i + 1), by omega, rfl, hlt, p'⟩, fun x H' y => ?_⟩
  obtain ⟨e, y⟩ := y
  subst e y
  exact hs i ys _ hlt p
 ·have e : i = n := by omega
  subst e
  exact .inl ⟨Nat.le_refl _, hd ys H p⟩
theorem lc_list {K : PySem.W.Frag} {a : Addr} {xs : List V} {g : TG} {tt : TT} {te : TE} {k : Nat} {js : List Nat} {σ : St} {D : Addr} {Q : VK} {H : Hp} (Pv : Nat → List V → Hp → Prop) (h0 : Pv 0 [] (upd H D (.lst [])))
  (hn : xs.length < sizeLine) (hl : ∀ i ys H, i ≤ xs.length → Pv i ys H → H D = some (.lst ys) ∧ ys.length ≤ i ∧ SqL K H a xs)
  (hs : ∀ i x ys H, xs[i]? = some x → Pv i ys H → g x (stLC σ k js) H fun σ2 H2 => (σ2.drop k = frV σ js ∧ σ2.length = k + js.length) ∧ tt σ2 H2 fun b H3 => if b = true then te σ2 H3 fun y H4 => H4 D = some (.lst ys) ∧ Pv (i + 1) (ys ++ [y]) (upd H4 D (.lst (ys ++ [y]))) else Pv (i + 1) ys H3)
  (hd : ∀ ys H, Pv xs.length ys H → Q (.ref D) H) :
  ∃ W : Nat → Nat → List V → Hp → Prop, (∃ m, W 0 m [] (upd H D (.lst []))) ∧ ∀ i m ys H, W i m ys H → H D = some (.lst ys) ∧
  (((Itl K a).stop i H ∧ Q (.ref D) H) ∨ ((Itl K a).go i H ∧ ys.length < sizeLine ∧ ∃ N : List V → Hp → Prop, (∀ ys' H', N ys' H' → ∃ m', m' < m ∧ W (i + 1) m' ys' H') ∧
   ∀ x H', (Itl K a).yld i H x H' → g x (stLC σ k js) H' fun σ2 H2 => (σ2.drop k = frV σ js ∧ σ2.length = k + js.length) ∧ tt σ2 H2 fun b H3 => if b = true then te σ2 H3 fun y H4 => H4 D = some (.lst ys) ∧ N (ys ++ [y]) (upd H4 D (.lst (ys ++ [y]))) else N ys H3)) := by
 refine ⟨fun i m ys H => m = xs.length - i ∧ i ≤ xs.length ∧ Pv i ys H, ⟨xs.length, by simp, Nat.zero_le _, h0⟩, ?_⟩
 rintro i m ys H ⟨rfl, hi, p⟩
 obtain ⟨e1, e2, q⟩ := hl i ys H hi p
 refine ⟨e1, ?_⟩
 by_cases hlt : i < xs.length
 ·refine .inr ⟨⟨xs, xs[i], q, by simp [hlt]⟩, by omega, Pv (i + 1), fun ys' H' p' => ⟨xs.length - (i + 1), by omega, rfl, hlt, p'⟩, fun x H' y => ?_⟩
  obtain ⟨e, y⟩ := y
  subst e
  exact hs i x ys _ (y xs q) p
 ·have e : i = xs.length := by omega
  subst e
  exact .inl ⟨⟨xs, q, Nat.le_refl _⟩, hd ys H p⟩
end L2
namespace L2
open PySem PySem.Spec PyProof.Rows
section
variable {X : Cx} {st : Stmt} {rest : List Stmt} {t u : TS}
noncomputable def tCut (t u : TS) : TS := fun D σ H => ∃ Pv : St → Hp → Prop, t { D with nx := Pv } σ H ∧ ∀ σ H, Pv σ H → u D σ H
theorem pss_cut (h1 : PS X st t) (h2 : PSs X rest u) : PSs X (st :: rest) (tCut t u) := by
 intro pins s σ H D I h
 obtain ⟨Pv, ha, hb⟩ := h
 refine wpAny_execs_cons (thn (h1 pins s σ H { D with nx := Pv } I ha) fun f s1 q => ?_)
 cases f with
 | next =>
  obtain ⟨σ', H', I', q⟩ := q
  exact h2 pins s1 σ' H' D I' (hb σ' H' q)
 | ret v => exact q
 | brk => exact q
 | cont => exact q
end
theorem CMulA.of {m n : Nat} {i j : Int} (h : Bd m i) (k : Bd n j) (hm : m ≤ 100000) (hn : n ≤ 100000) : CMulA i j := .inr ⟨h.mono hm, k.mono hn⟩
theorem CMulA.left {i j : Int} (h1 : -(2 ^ 64) < i) (h2 : i < 2 ^ 64) : CMulA i j := .inl (.inl ⟨h1, h2⟩)
theorem CMulA.right {i j : Int} (h1 : -(2 ^ 64) < j) (h2 : j < 2 ^ 64) : CMulA i j := .inl (.inr ⟨h1, h2⟩)
noncomputable def Feed (H : Hp) (p : Addr) : Prop := ∃ a b c : Int, H p = some (.lst [.int a, .int b, .int c])
structure FX (p : Addr) (H H' : Hp) : Prop where
 feed : Feed H' p
 keep : ∀ b o, b ≠ p → H b = some o → H' b = some o
theorem FX.trans {p : Addr} {H H1 H2 : Hp} (a : FX p H H1) (b : FX p H1 H2) : FX p H H2 := ⟨b.feed, fun c o hc h => b.keep c o hc (a.keep c o hc h)⟩
theorem FX.refl {p : Addr} {H : Hp} (h : Feed H p) : FX p H H := ⟨h, fun _ _ _ h => h⟩
theorem FX.upd {p q : Addr} {H H1 : Hp} {o : HO} (a : FX p H H1) (h : H1 q = none) : FX p H (L2.upd H1 q o) := by
 obtain ⟨x, y, z, e⟩ := a.feed
 exact ⟨⟨x, y, z, by rw [upd_ne (ne_of_none e h)]; exact e⟩, fun b u hb hu => by rw [upd_ne (ne_of_none (a.keep b u hb hu) h)]; exact a.keep b u hb hu⟩
theorem FX.set {p q : Addr} {H H1 : Hp} {o : HO} (a : FX p H H1) (hn : H q = none) (hq : q ≠ p) : FX p H (L2.upd H1 q o) := by
 obtain ⟨x, y, z, e⟩ := a.feed
 refine ⟨⟨x, y, z, by rw [upd_ne (Ne.symm hq)]; exact e⟩, fun b u hb hu => ?_⟩
 rw [upd_ne (ne_of_none hu hn)]
 exact a.keep b u hb hu
theorem FX.ext {p : Addr} {H H' : Hp} {o : HO} (h : H p = none) (a : FX p (L2.upd H p o) H') : Ext H H' := fun b u e => a.keep b u (ne_of_none e h) (by rw [upd_ne (ne_of_none e h)]; exact e)
theorem Feed.upd {p q : Addr} {H : Hp} {o : HO} (a : Feed H p) (h : H q = none) : Feed (L2.upd H q o) p := by
 obtain ⟨x, y, z, e⟩ := a
 exact ⟨x, y, z, by rw [upd_ne (ne_of_none e h)]; exact e⟩
theorem upd_f {H : Hp} {q b : Addr} {o u : HO} (h : H q = none) (e : H b = some u) : upd H q o b = some u := by rw [upd_ne (ne_of_none e h)]; exact e
end L2
namespace L2
open PySem PySem.Spec PyProof.Rows
theorem Bd.lit {n : Nat} {i : Int} (h : i.natAbs < 2 ^ 64) (hn : 64 ≤ n) : Bd n i := Bd.mono (m := 64) h hn
theorem bd10 : Bd 100000 10 = True := eq_true (Bd.lit (by decide) (by decide))
theorem bd64 : Bd 9000 64 = True := eq_true (Bd.lit (by decide) (by decide))
theorem bd2 : Bd 9000 2 = True := eq_true (Bd.lit (by decide) (by decide))
theorem bd4 : Bd 9000 4 = True := eq_true (Bd.lit (by decide) (by decide))
theorem bd3 : Bd 9000 3 = True := eq_true (Bd.lit (by decide) (by decide))
theorem CMulA.mod {x m y : Int} (h0 : 0 < m) (h : m ≤ 2 ^ 64) : CMulA (x % m) y := by
 have h1 := Int.emod_nonneg x (by omega : m ≠ 0)
 have h2 := Int.emod_lt_of_pos x h0
 exact .left (by omega) (by omega)
theorem ixN_3_0 : ixN 3 0 = some 0 := rfl
theorem ixN_3_1 : ixN 3 1 = some 1 := rfl
theorem ixN_3_2 : ixN 3 2 = some 2 := rfl
theorem ixN_2_0 : ixN 2 0 = some 0 := rfl
theorem ixN_2_1 : ixN 2 1 = some 1 := rfl
theorem ixN_4_0 : ixN 4 0 = some 0 := rfl
theorem ixN_4_1 : ixN 4 1 = some 1 := rfl
theorem ixN_4_2 : ixN 4 2 = some 2 := rfl
theorem ixN_4_3 : ixN 4 3 = some 3 := rfl
theorem atI_mod {xs : List Int} {k : Int} (h : 0 < xs.length) : ∃ x, atI (xs.map V.int) (k % (xs.length : Int)) = some (.int x) ∧ x ∈ xs := by
 have h1 := Int.emod_nonneg k (by omega : (xs.length : Int) ≠ 0)
 have h2 := Int.emod_lt_of_pos k (by omega : 0 < (xs.length : Int))
 obtain ⟨j, hj⟩ : ∃ j : Nat, k % (xs.length : Int) = (j : Int) := ⟨(k % (xs.length : Int)).toNat, by omega⟩
 rw [hj] at h2 ⊢
 have hjl : j < xs.length := by omega
 exact ⟨xs[j], atI_nat (by rw [List.getElem?_map]; simp [hjl]), List.getElem_mem hjl⟩
end L2
namespace L2
open PySem PySem.Spec PyProof.Rows
section
variable {g : TG} {tt : TT} {te tl : TE} {ta : TA} {k : Nat} {js : List Nat} {σ : St} {Q : VK} {H : Hp} {tb : TS} {Dn : Ends} {K : PySem.W.Frag} {a : Addr} {xs : List V}
theorem tlc_range (n : Nat) (ha : ∀ R : List V → Hp → Prop, R [.int n] H → ta σ H R) (hn : n < 1000000) (Pv : Addr → Nat → List V → Hp → Prop) (h0 : ∀ D, H D = none → Pv D 0 [] (upd H D (.lst [])))
  (hl : ∀ D i ys H, i ≤ n → Pv D i ys H → H D = some (.lst ys) ∧ ys.length ≤ i)
  (hs : ∀ D i ys H1, H D = none → i < n → Pv D i ys H1 → g (.int (0 + (i : Int))) (L2.stLC σ k js) H1 fun σ2 H2 => (σ2.drop k = frV σ js ∧ σ2.length = k + js.length) ∧ tt σ2 H2 fun b H3 => if b = true then te σ2 H3 fun y H4 => H4 D = some (.lst ys) ∧ Pv D (i + 1) (ys ++ [y]) (upd H4 D (.lst (ys ++ [y]))) else Pv D (i + 1) ys H3)
  (hd : ∀ D ys H1, H D = none → Pv D n ys H1 → Q (.ref D) H1) : tLC (iRng1 ta) k js g tt te σ H Q :=
 ha _ ⟨n, rfl, by omega, by omega, fun D hD => lc_range (lo := 0) (n := (n : Int).toNat) (Pv D) (h0 D hD) (Nat.lt_trans (by simpa using hn) (by decide)) (fun i ys H hi p => hl D i ys H (by simpa using hi) p) (fun i ys H hi p => hs D i ys H hD (by simpa using hi) p) (fun ys H p => hd D ys H hD (by simpa using p))⟩
theorem tlc_list (ha : ∀ R : VK, R (.ref a) H → tl σ H R) (hq : SqL K H a xs) (hn : xs.length < 1000000) (Pv : Addr → Nat → List V → Hp → Prop) (h0 : ∀ D, H D = none → Pv D 0 [] (upd H D (.lst [])))
  (hl : ∀ D i ys H, i ≤ xs.length → Pv D i ys H → H D = some (.lst ys) ∧ ys.length ≤ i ∧ SqL K H a xs)
  (hs : ∀ D i x ys H1, H D = none → xs[i]? = some x → Pv D i ys H1 → g x (L2.stLC σ k js) H1 fun σ2 H2 => (σ2.drop k = frV σ js ∧ σ2.length = k + js.length) ∧ tt σ2 H2 fun b H3 => if b = true then te σ2 H3 fun y H4 => H4 D = some (.lst ys) ∧ Pv D (i + 1) (ys ++ [y]) (upd H4 D (.lst (ys ++ [y]))) else Pv D (i + 1) ys H3)
  (hd : ∀ D ys H1, H D = none → Pv D xs.length ys H1 → Q (.ref D) H1) : tLC (iList K tl) k js g tt te σ H Q :=
 ha _ ⟨a, rfl, ⟨xs, hq⟩, fun D hD => lc_list (Pv D) (h0 D hD) (Nat.lt_trans hn (by decide)) (fun i ys H hi p => hl D i ys H hi p) (fun i x ys H hi p => hs D i x ys H hD hi p) (fun ys H p => hd D ys H hD p)⟩
theorem tfor_range (n : Nat) (ha : ∀ R : List V → Hp → Prop, R [.int n] H → ta σ H R) (hn : n < 1000000) (Pv : Nat → St → Hp → Prop) (h0 : Pv 0 σ H)
  (hs : ∀ i σ H, i < n → Pv i σ H → g (.int (0 + (i : Int))) σ H fun σ2 H2 => tb { Dn with nx := Pv (i + 1), ct := Pv (i + 1), bk := Dn.nx } σ2 H2) (hd : ∀ σ H, Pv n σ H → Dn.nx σ H) : tFor (iRng1 ta) g tb Dn σ H :=
 ha _ ⟨n, rfl, by omega, by omega, for_range (lo := 0) (n := (n : Int).toNat) Pv h0 (fun i σ H hi p => hs i σ H (by simpa using hi) p) (fun σ H p => hd σ H (by simpa using p))⟩
theorem tfor_list (ha : ∀ R : VK, R (.ref a) H → tl σ H R) (Pv : Nat → St → Hp → Prop) (h0 : Pv 0 σ H) (hl : ∀ i σ H, i ≤ xs.length → Pv i σ H → SqL K H a xs)
  (hs : ∀ i x σ H, xs[i]? = some x → Pv i σ H → g x σ H fun σ2 H2 => tb { Dn with nx := Pv (i + 1), ct := Pv (i + 1), bk := Dn.nx } σ2 H2) (hd : ∀ σ H, Pv xs.length σ H → Dn.nx σ H) : tFor (iList K tl) g tb Dn σ H :=
 ha _ ⟨a, rfl, ⟨xs, hl 0 σ H (Nat.zero_le _) h0⟩, for_list (xs := xs) Pv h0 hl hs hd⟩
end
end L2
namespace L2
open PySem PySem.Spec PyProof.Rows
section
variable {X : Cx} {K : PySem.W.Frag}
noncomputable def rLenK (K : PySem.W.Frag) : List V → Hp → VK → Prop := fun xs H Q => ∃ p ys, xs = [.ref p] ∧ (SqL K H p ys ∨ SqT K H p ys) ∧ Q (.int ys.length) H
theorem call_lenK (hK : X.K = K) : CallR X (.builtin "len") (rLenK K) := by subst hK; exact call_len_seq
theorem ix_listK (hK : X.K = K) : IxR X (rIxL K) := by subst hK; exact ix_list
theorem op_eqDK (hK : X.K = K) (hu : X.A.units + 64 < cLine) : OpR X (compareOp .Eq) (rEqD K id) := by subst hK; exact op_eqD hu
theorem op_neDK (hK : X.K = K) (hu : X.A.units + 64 < cLine) : OpR X (compareOp .NotEq) (rEqD K not) := by subst hK; exact op_neD hu
theorem pi_listK {tg l : Expr} {tl : TE} (hK : X.K = K) (hl : PE X l tl) : PI X tg l (iList K tl) := by subst hK; exact pi_list hl
end
end L2
namespace L2
open PySem
theorem Feed.ne {p t : Addr} {H : Hp} (h : Feed H p) (ht : H t = none) : t ≠ p := by
 obtain ⟨a, b, c, e⟩ := h
 exact (ne_of_none e ht).symm
end L2
set_option Elab.async false
set_option linter.all false
set_option maxRecDepth 100000
namespace L2
open PySem PySem.Spec PyProof.Rows
noncomputable def lstOf (o : Option HO) : Option (List V) := match o with
 | some (.lst xs) => some xs
 | _ => none
theorem lstOf_l (xs : List V) : lstOf (some (.lst xs)) = some xs := rfl
theorem lstOf_eq {o : Option HO} {xs : List V} (h : lstOf o = some xs) : o = some (.lst xs) := by
 cases o with
 | none => cases h
 | some o =>
  cases o with
  | lst ys => rw [show ys = xs from Option.some.inj h]
  | _ => cases h
theorem optK_elim {α : Type} {o : Option α} {k : α → Prop} (h : optK o k) : ∃ v, o = some v ∧ k v := by
 unfold optK at h
 split at h
 ·exact ⟨_, rfl, h⟩
 ·exact h.elim
theorem seqOf_sq {K : PySem.W.Frag} {H : Hp} {p : Addr} {xs : List V} (h : seqOf (H p) = some xs) : SqL K H p xs ∨ SqT K H p xs := by
 cases e : H p with
 | none => rw [e] at h; cases h
 | some o =>
  rw [e] at h
  cases o with
  | lst ys => rw [show ys = xs from Option.some.inj h] at e; exact .inl (SqL.of e)
  | tup ys => rw [show ys = xs from Option.some.inj h] at e; exact .inr (SqT.of e)
  | _ => cases h
section
variable {X : Cx} {e : Expr}
theorem PE.imp {t t' : TE} (h : PE X e t) (i : ∀ σ H Q, t' σ H Q → t σ H Q) : PE X e t' := fun pins s σ H Q I hw => h pins s σ H Q I (i σ H Q hw)
noncomputable def tUp (t : TE) : TE := fun σ H Q => ∃ R : VK, t σ H R ∧ ∀ x H1, R x H1 → Q x H1
theorem PE.up {t : TE} (h : PE X e t) : PE X e (tUp t) := fun pins s σ H Q I ⟨R, hw, hq⟩ => thn (h pins s σ H R I hw) fun v s1 ⟨x, H1, I1, r1, q1⟩ => ⟨x, H1, I1, r1, hq x H1 q1⟩
end
theorem small6 {n : Nat} (h : n < 1000000) : n < sizeLine := Nat.lt_trans h (by decide)
noncomputable def appR : V → List V → Hp → VK → Prop := fun x vs H Q => match x, vs with
 | .ref l, [y] => optK (lstOf (H l)) fun xs => xs.length < 1000000 ∧ Q .non (upd H l (.lst (xs ++ [y])))
 | _, _ => False
noncomputable def popR : V → List V → Hp → VK → Prop := fun x vs H Q => match x, vs with
 | .ref l, [] => optK (lstOf (H l)) fun xs => optK xs.getLast? fun y => Q y (upd H l (.lst xs.dropLast))
 | _, _ => False
section
variable {X : Cx}
theorem mt_app : MtM X "list.append" appR := by
 intro pins s σ H x vs v us Q I rx rv h
 unfold appR at h
 split at h
 ·rename_i l y
  obtain ⟨xs, e, hz, q⟩ := optK_elim h
  exact mt_append pins s σ H _ _ v us Q I rx rv ⟨l, xs, y, rfl, rfl, lstOf_eq e, small6 hz, q⟩
 ·exact h.elim
noncomputable def tML (r : V → List V → Hp → VK → Prop) (to : TE) (t : TA) : TE := fun σ H Q => to σ H fun x H1 => match x with
 | .ref l => (lstOf (H1 l)).isSome = true ∧ t σ H1 fun vs H2 => r x vs H2 Q
 | _ => False
end
section
variable {X : Cx} {K : PySem.W.Frag} {a b : Expr} {ta tb : TE} {pos : Pos}
noncomputable def catF : R2 := fun x y H Q => match x, y with
 | .ref a, .ref b => optK (lstOf (H a)) fun xs => optK (lstOf (H b)) fun ys => xs.length + ys.length < 1000000 ∧ ∀ p, H p = none → Q (.ref p) (upd H p (.lst (xs ++ ys)))
 | _, _ => False
theorem op_catF : OpR X (binaryOp .Add) catF := by
 intro pins s σ H x y v u Q I rx ry h
 unfold catF at h
 split at h
 ·rename_i p q
  obtain ⟨xs, e, h⟩ := optK_elim h
  obtain ⟨ys, e', hz, k⟩ := optK_elim h
  exact op_cat pins s σ H _ _ v u Q I rx ry ⟨p, q, xs, ys, rfl, rfl, lstOf_eq e, lstOf_eq e', Nat.le_of_lt (small6 hz), k⟩
 ·exact h.elim
noncomputable def listF : List V → Hp → VK → Prop := fun vs H Q => match vs with
 | [.ref p] => optK (seqOf (H p)) fun ys => ∀ l, H l = none → Q (.ref l) (upd H l (.lst ys))
 | _ => False
theorem call_listF : CallR X (.type "list") listF := by
 intro pins s σ H xs us Q I r h
 unfold listF at h
 split at h
 ·rename_i p
  obtain ⟨ys, e, h⟩ := optK_elim h
  exact call_list_of pins s σ H _ us Q I r ⟨p, ys, rfl, seqOf_sq e, h⟩
 ·exact h.elim
noncomputable def lenF : List V → Hp → VK → Prop := fun vs H Q => match vs with
 | [.ref p] => optK (seqOf (H p)) fun ys => Q (.int ys.length) H
 | _ => False
theorem call_lenF : CallR X (.builtin "len") lenF := by
 intro pins s σ H xs us Q I r h
 unfold lenF at h
 split at h
 ·rename_i p
  obtain ⟨ys, e, h⟩ := optK_elim h
  exact call_len_seq pins s σ H _ us Q I r ⟨p, ys, rfl, seqOf_sq e, h⟩
 ·exact h.elim
noncomputable def slF : V → Option Int → Option Int → Hp → VK → Prop := fun x lo hi H Q => match x with
 | .ref a => optK (lstOf (H a)) fun xs => ∀ p, H p = none → Q (.ref p) (upd H p (.lst (cutV xs lo hi)))
 | _ => False
theorem sl_F : SlR X slF := by
 intro pins s σ H x v vl vu lo hi sl Q I rx hs pl pu h
 unfold slF at h
 split at h
 ·rename_i p
  obtain ⟨ys, e, h⟩ := optK_elim h
  exact sl_list pins s σ H _ v vl vu lo hi sl Q I rx hs pl pu ⟨p, ys, rfl, SqL.of (lstOf_eq e), h⟩
 ·exact h.elim
noncomputable def tyN (H : Hp) : V → Option String
 | .non => some "NoneType"
 | .bl _ => some "bool"
 | .int _ => some "int"
 | .str _ => some "str"
 | .ref a => (match H a with
  | some (.lst _) => some "list"
  | some (.tup _) => some "tuple"
  | _ => none)
 | _ => none
noncomputable def isiT : String → String → Option Bool
 | "int", "int" => some true | "int", "bool" => some false | "bool", "int" => some true | "bool", "bool" => some true
 | "tuple", "tuple" => some true | "list", "list" => some true | "list", "tuple" => some false | "tuple", "list" => some false | _, _ => none
noncomputable def isiF : List V → Hp → VK → Prop := fun vs H Q => match vs with
 | [x, .ty T] => optK (tyN H x) fun n => optK (isiT n T) fun b => Q (.bl b) H
 | _ => False
end
section
variable {X : Cx} {o e : Expr} {to : TE} {t : TA} {apos cpos : Pos}
theorem pe_app (ho : PE X o to) (ha : PA X [e] t)
  (hbase : attributeBase o "append" X.env (eval o X.env) = eval o X.env := by rfl)
  (hfew : ((backTo cpos (starEach [e] X.env)).all (fun x => !x.1) && (backToKw cpos (keywordEach [] X.env)).all (fun x => x.1.isSome)
   && decide ([e].length + ([] : List Keyword).length + (if ([] : List Keyword).isEmpty then 0 else 1) < 30)) = true := by rfl)
  (hline : (apos.endLine == cpos.line) = true := by rfl) (hs : starEach [e] X.env = (false, eval e X.env) :: starEach [] X.env := by rfl) (hplain : (backTo cpos (starEach [] X.env)).any (·.1) = false := by rfl) :
  PE X (.Call (.Attribute o "append" apos) [e] [] cpos) (tML appR to t) := by
 intro pins s σ H Q I h
 refine pe_bm PySem.F.plainAttrs_list PySem.F.slot_list_append PySem.F.type_list_append mt_app ho.up ha hbase hfew hline hs hplain pins s σ H Q I ⟨_, h, fun x H1 q => ?_⟩
 cases x with
 | ref l =>
  obtain ⟨h1, h2⟩ := q
  obtain ⟨xs, e⟩ := Option.isSome_iff_exists.mp h1
  exact ⟨.inl ⟨rfl, xs, SqL.of (lstOf_eq e)⟩, h2⟩
 | _ => exact q.elim
noncomputable def tML0 (r : V → List V → Hp → VK → Prop) (to : TE) : TE := fun σ H Q => to σ H fun x H1 => match x with
 | .ref l => (lstOf (H1 l)).isSome = true ∧ r x [] H1 Q
 | _ => False
end
theorem isiT_1 : isiT "int" "int" = some true := rfl
theorem isiT_2 : isiT "int" "bool" = some false := rfl
theorem isiT_3 : isiT "bool" "int" = some true := rfl
theorem isiT_4 : isiT "bool" "bool" = some true := rfl
theorem isiT_5 : isiT "tuple" "tuple" = some true := rfl
theorem isiT_6 : isiT "list" "list" = some true := rfl
theorem isiT_7 : isiT "list" "tuple" = some false := rfl
end L2
namespace L2
open PySem
theorem Ext.set {H H2 : Hp} {D : Addr} {o : HO} (x : Ext H H2) (hD : H D = .none) : Ext H (L2.upd H2 D o) := fun b u e => by rw [upd_ne (ne_of_none e hD)]; exact x b u e
theorem FX.more {p : Addr} {H H1 H2 : Hp} (f : FX p H H1) (x : Ext H1 H2) : FX p H H2 := by
 obtain ⟨a, b, c, e⟩ := f.feed
 exact ⟨⟨a, b, c, x _ _ e⟩, fun b u hb e => x _ _ (f.keep b u hb e)⟩
end L2
namespace L2
open PySem
section
variable {g : TG} {tt : TT} {te tl : TE} {ta : TA} {k : Nat} {js : List Nat} {σ : St} {Q : VK} {H : Hp} {tb : TS} {Dn : Ends} {K : PySem.W.Frag}
theorem tfor_list_up (R : VK) (h : tl σ H R)
  (hb : ∀ x H1, R x H1 → ∃ (a : Addr) (xs : List V), x = .ref a ∧ ∃ Pv : Nat → St → Hp → Prop, Pv 0 σ H1 ∧ (∀ i σ H, i ≤ xs.length → Pv i σ H → SqL K H a xs) ∧
   (∀ i x σ H, xs[i]? = some x → Pv i σ H → g x σ H fun σ2 H2 => tb { Dn with nx := Pv (i + 1), ct := Pv (i + 1), bk := Dn.nx } σ2 H2) ∧ ∀ σ H, Pv xs.length σ H → Dn.nx σ H) : tFor (iList K (tUp tl)) g tb Dn σ H := by
 refine ⟨R, h, fun x H1 q => ?_⟩
 obtain ⟨a, xs, rfl, Pv, h0, hl, hs, hd⟩ := hb x H1 q
 exact ⟨a, rfl, ⟨xs, hl 0 σ H1 (Nat.zero_le _) h0⟩, for_list (xs := xs) Pv h0 hl hs hd⟩
end
end L2
namespace L2
open PySem
noncomputable def tup3 (o : Option HO) : Option (Int × Int × Int) := match o with
 | some (.tup [.int a, .int b, .int c]) => some (a, b, c)
 | _ => none
theorem tup3_some (a b c : Int) : tup3 (some (.tup [.int a, .int b, .int c])) = some (a, b, c) := rfl
theorem tup3_eq {o : Option HO} {x : Int × Int × Int} (h : tup3 o = some x) : o = some (.tup [.int x.1, .int x.2.1, .int x.2.2]) := by
 unfold tup3 at h
 split at h
 ·cases h
  rfl
 ·cases h
noncomputable def tup2 (o : Option HO) : Option (Int × Int) := match o with
 | some (.tup [.int a, .int b]) => some (a, b)
 | _ => none
theorem tup2_some (a b : Int) : tup2 (some (.tup [.int a, .int b])) = some (a, b) := rfl
theorem tup2_eq {o : Option HO} {x : Int × Int} (h : tup2 o = some x) : o = some (.tup [.int x.1, .int x.2]) := by
 unfold tup2 at h
 split at h
 ·cases h
  rfl
 ·cases h
noncomputable def B3 (n : Nat) (x : Int × Int × Int) : Prop := Bd n x.1 ∧ Bd n x.2.1 ∧ Bd n x.2.2
noncomputable def B2 (n : Nat) (x : Int × Int) : Prop := Bd n x.1 ∧ Bd n x.2
end L2
namespace L2
open PySem
section
variable {X : Cx} {pos : Pos}
noncomputable def gSeqF (n : Nat) (t : TGs) : TG := fun v σ H Q => match v with
 | .ref a => optK (seqOf (H a)) fun xs => xs.length = n ∧ t xs σ H Q
 | _ => False
theorem pg_F {es : List Expr} {k : Nat} {t : TGs} {n : Nat} (hc : X.calm = true) (h : PGs X es t)
  (hn : (assignEach es X.env).length = n := by rfl) (hst : (assignEach es X.env).findIdx? (·.1) = none := by rfl) : PG X (.Tuple es k pos) (gSeqF n t) := by
 intro pins s σ H v u Q I r hw
 unfold gSeqF at hw
 split at hw
 ·rename_i a
  obtain ⟨xs, e, hl, q⟩ := optK_elim hw
  rcases seqOf_sq (K := X.K) e with e | e
  ·exact pg_seq hc h hn hst pins s σ H _ u Q I r (.inr ⟨a, xs, rfl, e, hl, q⟩)
  ·exact pg_seq hc h hn hst pins s σ H _ u Q I r (.inl ⟨a, xs, rfl, e, hl, q⟩)
 ·exact hw.elim
end
end L2
namespace L2
open PySem
theorem Ext.fx {p : Addr} {H H1 H2 : Hp} (x : Ext H H1) (hp : H p = .none) (f : FX p H1 H2) : Ext H H2 := fun b o e => f.keep b o (ne_of_none e hp) (x b o e)
end L2
namespace L2
open PySem
theorem eqv_t2 (a b c d : Int) : PyData.eqv (.tuple [.int a, .int b]) (.tuple [.int c, .int d]) = decide (a = c ∧ b = d) := by
 rw [Bool.eq_iff_iff]
 simp [PyData.eqv, PyData.eqvAll]
theorem rdy_t2 {K : PySem.W.Frag} {H : Hp} {q : Addr} {a b : Int} (e : H q = some (.tup [.int a, .int b])) : Rdy K H (.ref q) (.tuple [.int a, .int b]) := .tup (SqT.of e) (.cons (.int a) (.cons (.int b) .nil))
theorem rdy_t3 {K : PySem.W.Frag} {H : Hp} {q : Addr} {a b c : Int} (e : H q = some (.tup [.int a, .int b, .int c])) : Rdy K H (.ref q) (.tuple [.int a, .int b, .int c]) := .tup (SqT.of e) (.cons (.int a) (.cons (.int b) (.cons (.int c) .nil)))
end L2
set_option Elab.async false
set_option linter.all false
set_option maxRecDepth 100000
namespace L2
open PySem PySem.Spec PyProof.Rows
structure ExcC (K : PySem.W.Frag) (C : Addr) : Prop where
 exc : PySem.W.excIn K C [.type "ValueError", .type "Exception", .type "BaseException", .type "object"] "ValueError.__new__" = true
 ga : PySem.W.findIn K (.ref C) "__getattribute__" = some (some (.builtin "BaseException.__getattribute__"))
 nog : PySem.W.findIn K (.ref C) "__getattr__" = some none
 cl : PySem.W.findIn K (.ref C) "__class__" = some (some (.builtin "object.__class__"))
 hn : PySem.W.specialIn K (.builtin "object.__class__") "__get__" = some (some (.builtin "getset_descriptor.__get__"))
 htk : PySem.W.takesIn K (.builtin "object.__class__") = some true
 isc : (PySem.W.clsIn K C).isSome = true
 sube : PySem.W.mroIn K C (.type "BaseException") = some true
 subo : PySem.W.mroIn K C (.type "object") = some true
noncomputable def ExcB (K : PySem.W.Frag) (C : Addr) : Prop :=
 PySem.W.findIn K (.ref C) "__getattribute__" = some (some (.builtin "BaseException.__getattribute__")) ∧ PySem.W.findIn K (.ref C) "__getattr__" = some none ∧
 PySem.W.findIn K (.ref C) "__class__" = some (some (.builtin "object.__class__")) ∧ PySem.W.specialIn K (.builtin "object.__class__") "__get__" = some (some (.builtin "getset_descriptor.__get__")) ∧
 PySem.W.takesIn K (.builtin "object.__class__") = some true ∧ (PySem.W.clsIn K C).isSome = true ∧ PySem.W.mroIn K C (.type "BaseException") = some true ∧ PySem.W.mroIn K C (.type "object") = some true
noncomputable def IsExc (a C : Addr) (h : Heap) : Prop := ∃ (o : Obj) (vs : Array Value), h.get? a = some o ∧ o.cls = .ref C ∧ o.data = .fields vs
section
open PySem.W PySem.Builtin PySem.Builtin.ObjectAttr PySem.Builtin.Getset_descriptor
variable {prog : Program} {w : World} {A : Around} {E : Value → Shared → Prop} {h : Heap} {g : Array GenState} {d : Drawn} {t : Nat} {os : OsState} {a : Addr} {o : Obj} {vs : Array Value} {C : Addr} {K : PySem.W.Frag}
theorem IsExc.type {M : Model} (I : IsExc a C h) : Looks M h (typeOf (.ref a)) (.ref C) := by
 obtain ⟨o, vs, h1, h2, h3⟩ := I
 exact h2 ▸ (Looks.ld h1).andThen .now
theorem looks_findD {M : Model} {x : Addr} {name : Str} {a' g' : Value} (X : K.In h) (ha : findIn K (.ref C) name = some (some a')) (hg : specialIn K a' "__get__" = some (some g')) (ht : takesIn K a' = some true) : Looks M h (find (.ref x) (.ref C) name) (.bind g' a') :=
 (looks_findIn X ha).andThen ((show Looks M h (getOf (some a')) (some g') from looks_specialIn X hg).andThen ((show Looks M h (dataDescriptor? (some a') (some g')) (some (g', a')) from (looks_takesIn X ht).andThen .now).andThen (Looks.tag .now)))
theorem class_getD {R : Result → Shared → Prop} {tp : Value} (X : K.In h) (hm : mroIn K C (.type "object") = some true) (I : IsExc a C h) (q : R (.ok (.ret (.ref C))) ⟨h, g, d, t, os⟩) :
  codeAny (model prog w) A (.call (.builtin "getset_descriptor.__get__") ⟨[.builtin "object.__class__", .ref a, tp], []⟩) R ⟨h, g, d, t, os⟩ := by
 have e0 := IsExc.type (M := model prog w) I
 have e1 := looks_mroIn (M := model prog w) X hm
 refine codeAny_call_builtin KF.slot_gs.plain KF.entry_gs ?_
 refine KF.slot_gs.check _ _ _ _ _ _ _ _ KF.type_class (KF.args_gs _ _ _) ?_
 unfold Builtin.«getset_descriptor.__get__»
 unfold descrGet
 rw [dga_obj]
 refine wpAny_bind ?_
 refine wpAny_pure ?_
 unfold descrGetter descrCheckInstance
 unfold descrNameAndClass isInstance
 simp only [KF.owner_class]
 repeat lk
 refine ⟨Code.quiet_builtin _ (by decide +kernel), ?_⟩
 refine codeAny_builtin KF.entry_class ?_
 unfold Builtin.«object.__class__»
 unfold shownTypeOf
 repeat lk
 exact q
theorem class_entry_exc {tk : Tok} {Q : Fin → Shared → Prop} (X : K.In h) (T : ExcB K C) (I : IsExc a C h) (hq : Q (.done (.ret (.ref C))) ⟨h, g, d, t, os⟩) :
  wpAny (model prog w) A (Builtin.«object.__getattribute__» ⟨[.ref a, .str "__class__" tk], []⟩) Q E ⟨h, g, d, t, os⟩ := by
 have L0 := IsExc.type (M := model prog w) I
 have L1 := looks_findD (M := model prog w) (x := a) X T.2.2.1 T.2.2.2.1 T.2.2.2.2.1
 unfold Builtin.«object.__getattribute__»
 repeat lk
 refine wpAny_run (codeAny_mono (class_getD (R := fun r s' => r = .ok (.ret (.ref C)) ∧ s' = ⟨h, g, d, t, os⟩) X T.2.2.2.2.2.2.2 I ⟨rfl, rfl⟩) fun r s' hr => ?_)
 obtain ⟨rfl, rfl⟩ := hr
 exact wpAny_pure (wpAny_pure hq)
theorem check_ga_exc {M : Model} {nameV : Value} {Q : Unit → Shared → Prop} (X : K.In h) (T : ExcB K C) (I : IsExc a C h) (hq : Q () ⟨h, g, d, t, os⟩) : wpAny M A (checkBuiltinCall "BaseException.__getattribute__" ⟨[.ref a, nameV], []⟩) Q E ⟨h, g, d, t, os⟩ := by
 have hk : builtinKind "BaseException.__getattribute__" = some .slot := by decide +kernel
 have hsplit : splitId "BaseException.__getattribute__" = some ("BaseException", "__getattribute__") := by decide +kernel
 have L0 := IsExc.type (M := M) I
 have L1 := PySem.W.looks_mroIn (M := M) X T.2.2.2.2.2.2.1
 have ha := F.args_bexc_ga (.ref a) nameV
 simp only [checkBuiltinCall, hk, hsplit]
 refine wpAny_bind ?_
 ·unfold isInstance
  repeat lk
  exact hq
theorem class_call_exc {tk : Tok} {R : Result → Shared → Prop} (X : K.In h) (T : ExcB K C) (I : IsExc a C h) (hq : R (.ok (.ret (.ref C))) ⟨h, g, d, t, os⟩) :
  codeAny (model prog w) A (.call (.builtin "BaseException.__getattribute__") ⟨[.ref a, .str "__class__" tk], []⟩) R ⟨h, g, d, t, os⟩ :=
 codeAny_call_builtin F.excAttr_ValueError.ga.plain F.entry_bexc_ga (check_ga_exc X T I (class_entry_exc X T I hq))
theorem class_by_exc {tk : Tok} {Q : Value → Shared → Prop} (X : K.In h) (T : ExcB K C) (I : IsExc a C h) (hq : Q (.ref C) ⟨h, g, d, t, os⟩) :
  wpAny (model prog w) A (getAttrBy (.ref a) (.str "__class__" tk) false) Q E ⟨h, g, d, t, os⟩ := by
 have L0 := IsExc.type (M := model prog w) I
 have L1 := PySem.W.looks_findIn (M := model prog w) X T.1
 have L2 := PySem.W.looks_findIn (M := model prog w) X T.2.1
 have hx2 : (Value.builtin "BaseException.__getattribute__" == Value.builtin "object.__getattribute__") = false := by decide +kernel
 unfold getAttrBy
 refine wpAny_holding (wpAny_bind (L0.at (wpAny_bind (L1.at ?_))))
 dsimp only
 rw [hx2, Bool.and_false, if_neg Bool.false_ne_true]
 unfold getAttrByItsOwn hookBefore
 rw [show onTheHeap (Value.ref C) = true from rfl, if_pos rfl]
 refine wpAny_bind (L2.at (wpAny_bind (wpAny_attempt (wpAny_holding ?_))))
 unfold callGetattribute
 rw [Bool.false_and, if_neg Bool.false_ne_true]
 have f3 := F.excAttr_ValueError.ga.bind (.ref a)
 unfold boundAndCalled
 repeat lk
 refine wpAny_run (codeAny_mono (class_call_exc (R := fun r s' => r = .ok (.ret (.ref C)) ∧ s' = ⟨h, g, d, t, os⟩) X T I ⟨rfl, rfl⟩) fun r s' hr => ?_)
 obtain ⟨rfl, rfl⟩ := hr
 exact wpAny_pure (wpAny_pure hq)
theorem kitx_exc (T : ExcB K C) : PySem.W.KitX K (.ref a) (.ref C) (IsExc a C) where
 ty := fun _ _ _ I => I.type
 it := fun _ _ X _ => by
  obtain ⟨cdD, hcD⟩ := Option.isSome_iff_exists.mp T.2.2.2.2.2.1
  unfold clsIn at hcD
  split at hcD
  ·rename_i c' d' cd' sl' ho
   intro A' Q' E' s' k q
   unfold isType loadHead
   exact wpAny_bind (wpAny_loadPart (k _ _ (X _ _ ho)) (wpAny_pure q))
  ·cases hcD
 ne := fun h tp dd its n sl X htp => by
  obtain ⟨cdD, hcD⟩ := Option.isSome_iff_exists.mp T.2.2.2.2.2.1
  refine Bool.eq_false_iff.mpr fun q => ?_
  have e : C = tp := Value.ref.inj (beq_iff_eq.mp q)
  subst e
  unfold clsIn at hcD
  split at hcD
  ·rename_i c' d' cd' sl' ho
   have z := (X _ _ ho).symm.trans htp
   cases z
  ·cases hcD
 ca := fun {_ _ _ _ _ s} X I k => by
  obtain ⟨h0, g0, d0, t0, os0⟩ := s
  unfold getAttr? getAttrBy?
  exact wpAny_bind (wpAny_mkText (wpAny_bind (wpAny_attempt (class_by_exc X T I (wpAny_pure k)))))
end
theorem ExcC.b {K : PySem.W.Frag} {C : Addr} (T : ExcC K C) : ExcB K C := ⟨T.ga, T.nog, T.cl, T.hn, T.htk, T.isc, T.sube, T.subo⟩
noncomputable def IsExcD (a C : Addr) (od : Option Addr) (h : Heap) : Prop := ∃ (o : Obj) (vs : Array Value), h.get? a = some o ∧ o.cls = .ref C ∧ o.data = .fields vs ∧ ∀ dx, od = some dx → o.dict = some dx
theorem IsExcD.e {a C : Addr} {od : Option Addr} {h : Heap} (x : IsExcD a C od h) : IsExc a C h := by
 obtain ⟨o, vs, h1, h2, h3, _⟩ := x
 exact ⟨o, vs, h1, h2, h3⟩
noncomputable def excD (a C : Addr) (od : Option Addr) : HO := .ext (IsExcD a C od)
section
variable {X : Cx}
noncomputable def rIsiX (K : PySem.W.Frag) : List V → Hp → VK → Prop := fun xs H Q => ∃ a C od, xs[0]? = some (.ref a) ∧ H a = some (excD a C od) ∧ ExcB K C ∧
 ((∃ D b, xs = [.ref a, .ref D] ∧ PySem.W.kitOne K (.ref C) (.ref D) = some b ∧ Q (.bl b) H) ∨ (∃ T b, xs = [.ref a, .ty T] ∧ PySem.W.kitOne K (.ref C) (.type T) = some b ∧ Q (.bl b) H))
theorem call_isiX {K : PySem.W.Frag} (hK : X.K = K) : CallR X (.builtin "isinstance") (rIsiX K) := by
 subst hK
 intro pins s σ H xs us Q I r h
 obtain ⟨a, C, od, _, ha, T, h⟩ := h
 obtain ⟨hx, _, _⟩ := I.hok a _ ha
 have hx := IsExcD.e hx
 rcases h with ⟨D, b, rfl, e, q⟩ | ⟨D, b, rfl, e, q⟩
 ·obtain ⟨u, v, rfl, ru, rv⟩ := r.two
  obtain rfl : u = Value.ref a := ru
  obtain rfl : v = Value.ref D := rv
  exact PySem.W.kia_one (kitx_exc T) I.kIn hx e (fun z => nomatch z) fun tk => ⟨.bl b, H, I.tok tk, rfl, q⟩
 ·obtain ⟨u, v, rfl, ru, rv⟩ := r.two
  obtain rfl : u = Value.ref a := ru
  obtain rfl : v = Value.type D := rv
  exact PySem.W.kia_one (kitx_exc T) I.kIn hx e (fun z => nomatch z) fun tk => ⟨.bl b, H, I.tok tk, rfl, q⟩
noncomputable def rIsiXT (K : PySem.W.Frag) : List V → Hp → VK → Prop := fun xs H Q => ∃ (a C tp : Addr) (od : Option Addr) (Ds : List Addr) (b : Bool), xs = [.ref a, .ref tp] ∧ H a = some (excD a C od) ∧ ExcB K C ∧ H tp = some (.tup (Ds.map V.ref)) ∧ PySem.W.kitAny K (.ref C) (Ds.map Value.ref) = some b ∧ Q (.bl b) H
theorem vals_ref : ∀ {Ds : List Addr} {us : List Value}, Vals (Ds.map V.ref) us → us = Ds.map Value.ref
 | [], _, .nil => rfl
 | b :: r, _, .cons h t => by
  rw [show _ = Value.ref b from h, vals_ref t]
  rfl
theorem call_isiXT {K : PySem.W.Frag} (hK : X.K = K) : CallR X (.builtin "isinstance") (rIsiXT K) := by
 subst hK
 intro pins s σ H xs us Q I r h
 obtain ⟨a, C, tp, od, Ds, b, rfl, ha, T, ht, e, q⟩ := h
 obtain ⟨hx, _, _⟩ := I.hok a _ ha
 have hx := IsExcD.e hx
 obtain ⟨u, v, rfl, ru, rv⟩ := r.two
 obtain rfl : u = Value.ref a := ru
 obtain rfl : v = Value.ref tp := rv
 obtain ⟨hz, its, rits, o, ho, hc, n, hd⟩ := I.hok tp _ ht
 have := vals_ref rits
 subst this
 obtain ⟨oc, od, odt, osl⟩ := o
 dsimp only at hc hd
 subst hc hd
 exact PySem.W.kia_tup (kitx_exc T) I.kIn hx ho e (fun z => nomatch z) fun tk => ⟨.bl b, H, I.tok tk, rfl, q⟩
end
end L2
set_option Elab.async false
set_option linter.all false
set_option maxRecDepth 100000
namespace L2
open PySem PySem.Spec PyProof.Rows
noncomputable def DKept (h h' : Heap) : Prop := ∀ a o, h.get? a = some o → ∃ o', h'.get? a = some o' ∧ o'.dict = o.dict
theorem DKept.refl {h : Heap} : DKept h h := fun a o e => ⟨o, e, rfl⟩
theorem DKept.trans {h1 h2 h3 : Heap} (x : DKept h1 h2) (y : DKept h2 h3) : DKept h1 h3 := fun a o e => by
 obtain ⟨o1, e1, d1⟩ := x a o e
 obtain ⟨o2, e2, d2⟩ := y a o1 e1
 exact ⟨o2, e2, d2.trans d1⟩
inductive KD {α : Type} : Sem α → Prop
 | pure (a : α) : KD (.pure a)
 | raise (e : Value) : KD (.raise e)
 | uns (x : String) : KD (.unsupported x)
 | rule {t : String} {k : Unit → Sem α} : KD (k ()) → KD (.rule t k)
 | at {p : Pos} {k : Unit → Sem α} : KD (k ()) → KD (.at p k)
 | load {a : Addr} {p : Option Value} {k : Obj → Sem α} : (∀ o, KD (k o)) → KD (.load a p k)
 | upd {a : Addr} {p : Option Value} {f : Obj → Obj} {k : Unit → Sem α} : (∀ o, (f o).dict = o.dict ∧ (o.isFreed = false → (f o).isFreed = false)) → KD (k ()) → KD (.update a p f k)
 | alloc {o : Obj} {k : Addr → Sem α} : (∀ a, KD (k a)) → KD (.alloc o k)
 | stack {k : List (Code × Pos) → Sem α} : (∀ l, KD (k l)) → KD (.stack k)
 | ask {k : Setting → Sem α} : (∀ l, KD (k l)) → KD (.ask k)
 | fresh {k : Tok → Sem α} : (∀ l, KD (k l)) → KD (.fresh k)
theorem KD.bind {α β : Type} {t : Sem α} {f : α → Sem β} (h : KD t) (g : ∀ a, KD (f a)) : KD (t >>= f) := by
 induction h with
 | pure a => exact g a
 | raise e => exact .raise e
 | uns x => exact .uns x
 | rule _ ih => exact .rule ih
 | «at» _ ih => exact .at ih
 | load _ ih => exact .load ih
 | upd c _ ih => exact .upd c ih
 | alloc _ ih => exact .alloc ih
 | stack _ ih => exact .stack ih
 | ask _ ih => exact .ask ih
 | fresh _ ih => exact .fresh ih
theorem dk_upd {h : Heap} {a : Addr} {f : Obj → Obj} (c : ∀ o, (f o).dict = o.dict ∧ (o.isFreed = false → (f o).isFreed = false)) : DKept h (h.update a f) := by
 intro b o e
 by_cases hb : b = a
 ·subst hb
  obtain ⟨e1, e2⟩ := Heap.get?_some_iff.mp e
  refine ⟨f o, Heap.get?_some_iff.mpr ⟨?_, (c o).2 e2⟩, (c o).1⟩
  cases h with
  | mk objs l =>
   show (objs.modify b f)[b]? = _
   rw [Array.getElem?_modify, if_pos rfl]
   show Option.map f objs[b]? = _
   rw [show objs[b]? = some o from e1]
   rfl
 ·exact ⟨o, Heap.get?_update_of_ne f (Ne.symm hb) e, rfl⟩
theorem KD.wp {α : Type} {M : Model} {Γ : PySem.Ctx} {t : Sem α} (h : KD t) {h0 : Heap} : ∀ {Q : α → Pos → Shared → Prop} {E : Value → Pos → Shared → Prop} {p : Pos} {s : Shared}, DKept h0 s.heap → Sem.wp M Γ t Q E p s →
  Sem.wp M Γ t (fun a p' s' => Q a p' s' ∧ DKept h0 s'.heap) (fun e p' s' => E e p' s' ∧ DKept h0 s'.heap) p s := by
 induction h with
 | pure a => intro Q E p s d q; exact ⟨q, d⟩
 | raise e => intro Q E p s d q; exact ⟨q, d⟩
 | uns x => intro Q E p s d q; exact q
 | rule _ ih => intro Q E p s d q; exact ih d q
 | «at» _ ih => intro Q E p s d q; exact ih d q
 | load _ ih => intro Q E p s d q; obtain ⟨o, e, q⟩ := q; exact ⟨o, e, ih o d q⟩
 | upd c _ ih => intro Q E p s d q; obtain ⟨e, q⟩ := q; exact ⟨e, ih (d.trans (dk_upd c)) q⟩
 | alloc _ ih => intro Q E p s d q; exact ih _ (d.trans fun b o e => ⟨o, Heap.get?_push_of_some _ e, rfl⟩) q
 | stack _ ih => intro Q E p s d q; exact ih _ d q
 | ask _ ih => intro Q E p s d q; exact ih _ d q
 | fresh _ ih => intro Q E p s d q; exact ih _ d q
theorem KD.any {α : Type} {M : Model} {A : Around} {t : Sem α} (h : KD t) {Q : α → Shared → Prop} {E : Value → Shared → Prop} {s : Shared} (q : wpAny M A t Q E s) :
  wpAny M A t (fun a s' => Q a s' ∧ DKept s.heap s'.heap) (fun e s' => E e s' ∧ DKept s.heap s'.heap) s := fun Γ p hΓ => h.wp .refl (q Γ p hΓ)
theorem kd_load {a : Addr} : KD (load a) := .load fun o => .pure o
theorem kd_uns {α : Type} {x : String} : KD (unsupported x : Sem α) := .uns x
theorem kd_fields {v : Value} : KD (fieldsOf v) := by
 unfold fieldsOf
 split
 ·refine kd_load.bind fun o => ?_
  split
  ·exact .pure _
  ·exact kd_uns
 ·exact kd_uns
theorem kd_field {v : Value} {i : Nat} : KD (field v i) := by
 unfold field
 refine kd_fields.bind fun vs => ?_
 split
 ·exact .pure _
 ·exact kd_uns
theorem kd_mapFields {g : Array Value → Array Value} (o : Obj) : (Obj.mapFields g o).dict = o.dict ∧ (o.isFreed = false → (Obj.mapFields g o).isFreed = false) := by
 unfold Obj.mapFields
 split
 ·exact ⟨rfl, fun _ => rfl⟩
 ·exact ⟨rfl, id⟩
theorem kd_setField {v x : Value} {i : Nat} : KD (setField v i x) := by
 unfold setField
 split
 ·unfold updateField
  refine kd_load.bind fun o => ?_
  split
  ·split
   ·exact .upd kd_mapFields (.pure _)
   ·exact kd_uns
  ·exact kd_uns
 ·exact kd_uns
theorem kd_newFields {ty : String} {vs : List Value} : KD (newFields ty vs) := by
 unfold newFields newObj
 dsimp only
 split
 ·exact kd_uns.bind fun _ => .alloc fun a => .pure _
 ·exact .alloc fun a => .pure _
theorem kd_ready : ∀ (l : List Env), KD (readyFrames l)
 | [] => .pure _
 | env :: outer => by
  rw [readyFrames.eq_2]
  split
  ·refine kd_load.bind fun o => ?_
   split
   ·exact .pure _
   ·have h1 : KD (behindIsImport env outer) := by
     unfold behindIsImport
     split
     ·exact .pure _
     ·split
      ·exact .pure _
      ·exact kd_field.bind fun _ => .pure _
    refine h1.bind fun b => ?_
    have h2 : KD (keptBack env b outer) := by
     unfold keptBack
     split
     ·split
      ·exact .pure _
      ·refine KD.bind ?_ fun _ => .pure _
       unfold underTheClaimsCaller
       exact .stack fun l => .pure _
     ·exact .pure _
    refine h2.bind fun v => ?_
    exact .upd (fun o => ⟨rfl, fun h => by obtain ⟨c, d, dt, sl⟩ := o; cases dt <;> first | rfl | exact h⟩) (kd_ready outer)
  ·exact kd_uns
theorem kd_note {e : Value} {env : Env} : KD (noteFrame e env) := by
 unfold noteFrame
 split
 ·rename_i f0 _
  have hj : ∀ (head : Value), KD (do
    let a ← PySem.frameOf env
    let b ← entryPlaceOf f0 (head != Value.none)
    let c ← EntryCells.newEntry head a Value.none (rawInt f0) Value.none b
    setField e 1 c) := fun head => by
   refine KD.bind ?_ fun a => KD.bind ?_ fun b => KD.bind ?_ fun c => kd_setField
   ·unfold PySem.frameOf
    refine KD.bind ?_ fun l => KD.bind ?_ fun o => ?_
    ·exact .stack fun l => .pure _
    ·unfold frameObject
     split
     ·exact .pure _
     ·exact (kd_ready _).bind fun _ => .pure _
    ·split
     ·exact .pure _
     ·exact kd_uns
   ·unfold entryPlaceOf
    refine KD.bind (.stack fun l => .pure _) fun acts => ?_
    split
    ·exact .pure _
    ·exact .pure _
   ·exact kd_newFields
  refine kd_field.bind fun head => ?_
  dsimp only
  split
  ·refine kd_field.bind fun x => ?_
   split
   ·exact .pure _
   ·exact kd_setField.bind fun _ => hj head
  ·exact hj head
 ·exact kd_uns
theorem kd_flight {e : Value} {fr : Option Addr} : KD (setFlight e fr) := by
 unfold setFlight
 refine kd_field.bind fun tb => ?_
 split
 ·exact kd_setField
 ·exact .pure _
theorem kd_leaving {e : Value} {env : Env} : KD (leaving env e) := kd_note.bind fun _ => kd_flight
end L2
set_option Elab.async false
set_option linter.all false
set_option maxRecDepth 100000
namespace L2
open PySem PySem.Spec PyProof.Rows
theorem ObjOk.there {P : Program} {w : World} {H : Hp} {h : Heap} {a : Addr} {o : HO} (x : ObjOk P w H h a o) : ∃ u, h.get? a = some u := by
 cases o with
 | lst xs => obtain ⟨_, _, _, _, e⟩ := x; exact ⟨_, e⟩
 | tup xs => obtain ⟨_, _, _, ob, e, _⟩ := x; exact ⟨_, e⟩
 | dK kvs => obtain ⟨_, _, _, _, ob, _, _, e, _⟩ := x; exact ⟨_, e⟩
 | dT kvs => obtain ⟨_, _, _, _, ob, _, _, e, _⟩ := x; exact ⟨_, e⟩
 | set S n => obtain ⟨ob, _, _, _, e, _⟩ := x; exact ⟨_, e⟩
 | ins C dx fs => obtain ⟨_, _, _, e, _⟩ := x; exact ⟨_, e⟩
 | own y => exact x
 | xd fs => obtain ⟨_, ⟨ob, _, _, e, _⟩, _⟩ := x; exact ⟨_, e⟩
 | rng lo hi => obtain ⟨_, _, _, e⟩ := x; exact ⟨_, e⟩
 | frz ob u => exact ⟨_, x.1⟩
 | tbl ps => exact ⟨_, (show h.get? a = some _ from x)⟩
 | met f y => exact ⟨_, (show h.get? a = some _ from x)⟩
 | ext φ => exact x.2.1
noncomputable def CXE (P : Program) (w : World) : CXT := fun outer H s E ev s' => ∃ (e C : Addr) (a0 : Value) (B : Heap) (H' : Hp) (od : Option Addr), ev = .ref e ∧ s'.os = s.os ∧ AllBare s'.gens ∧ Un (frs outer) [] H H' s.heap s'.heap ∧
 HOk P w H' s'.heap ∧ Heap.FlyingW B outer e (.ref C) a0 s'.heap ∧ (∀ b u, H' b = some u → ∃ o, B.get? b = some o) ∧ (∀ b o, s.heap.get? b = some o → b ∉ frs outer → ∃ o', B.get? b = some o') ∧ (∃ oe, s'.heap.get? e = some oe ∧ ∀ dx, od = some dx → oe.dict = some dx) ∧ E (.ref C) od H'
section
variable {P : Program} {w : World} {H H1 H' : Hp} {h0 h1 h2 B : Heap} {fs : List Addr} {L : Addr}
theorem fly_hok (ok : HOk P w H' h1) (b1 : B.StaysIn h1) (b2 : B.StaysIn h2) (c1 : ∀ b u, H' b = some u → ∃ o, B.get? b = some o) : HOk P w H' h2 := fun a o e =>
 (ok a o e).stay (fun b u hb q => by
  have hB : ∃ o', B.get? b = some o' := by
   rcases hb with rfl | hb
   ·exact c1 _ _ e
   ·exact c1 _ _ hb
  obtain ⟨o', hB⟩ := hB
  have z := b1 b o' hB
  rw [q] at z
  cases z
  exact b2 b _ hB) (fun _ q => q) fun _ _ q => q
theorem fly_un (u : Un fs [] H H' h0 h1) (b1 : B.StaysIn h1) (b2 : B.StaysIn h2) (up : h1.UpToSlots h2) (c2 : ∀ b o, h0.get? b = some o → b ∉ fs → ∃ o', B.get? b = some o')
  (hfs : ∀ b ∈ fs, H b = none ∧ ∃ o, h0.get? b = some o ∧ ∀ vs, o.data ≠ .fields vs) : Un fs [] H H' h0 h2 where
 keep := fun b o q n hb hx => by
  have e := u.keep b o q n hb hx
  obtain ⟨o', hB⟩ := c2 b o q hb
  have z := b1 b o' hB
  rw [e] at z
  cases z
  exact b2 b _ hB
 slot := fun b o q n hb hx => by
  obtain ⟨sl, e⟩ := u.slot b o q n hb hx
  obtain ⟨_, o2, ho2, nf⟩ := hfs b hb
  rw [q] at ho2
  cases ho2
  obtain ⟨sl', e'⟩ := up b _ e nf
  exact ⟨sl', e'⟩
 free := u.free
 there := fun b o q hx => by
  by_cases hb : b ∈ fs
  ·obtain ⟨n, o2, ho2, nf⟩ := hfs b hb
   rw [q] at ho2
   cases ho2
   obtain ⟨sl, e⟩ := u.slot b o q n hb hx
   obtain ⟨sl', e'⟩ := up b _ e nf
   exact ⟨_, e'⟩
  ·obtain ⟨o', hB⟩ := c2 b o q hb
   exact ⟨_, b2 b _ hB⟩
 tups := u.tups
 frzs := u.frzs
 tbls := u.tbls
theorem Un.under (a : Un fs [] H H1 h0 h1) (b : Un (L :: fs) [] H1 H' h1 h2) (hL : ∀ c o, h0.get? c = some o → c ≠ L) : Un fs [] H H' h0 h2 where
 keep := fun c o q n hc hx => b.keep c o (a.keep c o q n hc hx) (a.free c o q n hx) (fun z => (List.mem_cons.mp z).elim (hL c o q) hc) hx
 slot := fun c o q n hc hx => by
  obtain ⟨sl, e1⟩ := a.slot c o q n hc hx
  obtain ⟨sl', e2⟩ := b.slot c _ e1 (a.free c o q n hx) (List.mem_cons_of_mem _ hc) hx
  exact ⟨sl', e2⟩
 free := fun c o q n hx => by
  obtain ⟨o', e1⟩ := a.there c o q hx
  exact b.free c o' e1 (a.free c o q n hx) hx
 there := fun c o q hx => by
  obtain ⟨o', e1⟩ := a.there c o q hx
  exact b.there c o' e1 hx
 tups := fun c xs q => b.tups c xs (a.tups c xs q)
 frzs := fun c o xs q => b.frzs c o xs (a.frzs c o xs q)
 tbls := fun c ps q => by
  obtain ⟨m1, e1⟩ := a.tbls c ps q
  obtain ⟨m2, e2⟩ := b.tbls c _ e1
  exact ⟨m1 ++ m2, by rw [e2, Array.append_assoc]⟩
end
section
variable {X : Cx} {pins : List (Addr × Obj)} {σ : St} {H : Hp} {s : Shared}
theorem Inv.hfs (I : Inv X pins σ H s) : ∀ b ∈ frs X.stack, H b = none ∧ ∃ o, s.heap.get? b = some o ∧ ∀ vs, o.data ≠ .fields vs := fun b hb => by
 obtain ⟨_, o, ho, nf⟩ := I.stack.mem hb
 exact ⟨I.stkFree b hb, o, ho, nf⟩
end
section
variable {P : Program} {w : World} {K : PySem.W.Frag} {mg : Str → Option Value} {base : Heap} {N : List Str} {qual : Str} {scope : Scope} {f : Addr} {cd : Value} {A : Around} {outer : List Env} {s : Shared} {H : Hp} {E : XK}
theorem cxe_on {pins : List (Addr × Obj)} {σ : St} {H1 : Hp} {s1 s' : Shared} {ev : Value} (I : Inv (cxOf (CXE P w) P w K mg base N qual scope f cd A outer s H E) pins σ H1 s1)
  (h : CXE P w (cxOf (CXE P w) P w K mg base N qual scope f cd A outer s H E).stack H1 s1 E ev s') : (cxOf (CXE P w) P w K mg base N qual scope f cd A outer s H E).xe ev s' := by
 obtain ⟨e, C, a0, B, H', od, rfl, os, bare, un, hok, fl, c1, c2, hd, hE⟩ := h
 have hab := I.ok.above
 have neL : ∀ b o, s.heap.get? b = some o → b ≠ s.heap.objs.size := fun b o q => Nat.ne_of_lt (Heap.lt_size q)
 refine wpAny_mono (kd_leaving.any (wpAny_leaves_onW (Q := fun _ s2 => ∃ h2, s2 = { s' with heap := h2 } ∧ Heap.FlyingW B outer e (.ref C) a0 h2 ∧ s'.heap.UpToSlots h2) (E := fun _ _ => False) I.ok.frames rfl fl fun h' fl' up => ⟨h', rfl, fl', up⟩)) (fun _ s2 hq => ?_) fun _ _ z => z.1.elim
 obtain ⟨⟨h', rfl, fl', up⟩, dk⟩ := hq
 refine ⟨e, C, a0, B, H', od, rfl, os.trans I.os, bare, ?_, fly_hok hok fl.1 fl'.1 c1, fl', c1, fun b o q hb => ?_, ?_, hE⟩
 ·exact Un.under (L := s.heap.objs.size) I.base (fly_un un fl.1 fl'.1 up c2 I.hfs) neL
 ·obtain ⟨o1, q1⟩ := I.base.there b o q (fun z => nomatch z)
  exact c2 b o1 q1 fun z => (List.mem_cons.mp z).elim (neL b o q) hb
 ·obtain ⟨oe, h1, h2⟩ := hd
  obtain ⟨o', h3, h4⟩ := dk e oe h1
  exact ⟨o', h3, fun dx z => h4.trans (h2 dx z)⟩
theorem passE : Passes (CXE P w) (cxOf (CXE P w) P w K mg base N qual scope f cd A outer s H E) E := fun _ _ _ _ _ _ I h => cxe_on I h
end
theorem passE0 {X : Cx} {P : Program} {w : World} : Passes (CXE P w) X E0 := fun _ _ _ _ _ _ _ h => by
 obtain ⟨_, _, _, _, _, _, _, _, _, _, _, _, _, _, _, hE⟩ := h
 exact hE.elim
noncomputable def MadeOk (X : Cx) (E : XK) : Prop := ∀ (pins : List (Addr × Obj)) (σ : St) (H : Hp) (s : Shared) (e C : Addr) (args : List Value) (h' : Heap), Inv X pins σ H s → Heap.MadeExcOf s.heap h' e (.ref C) args → E (.ref C) none H → X.xe (.ref e) { s with heap := h' }
section
variable {P : Program} {w : World} {K : PySem.W.Frag} {mg : Str → Option Value} {base : Heap} {N : List Str} {qual : Str} {scope : Scope} {f : Addr} {cd : Value} {A : Around} {outer : List Env} {s : Shared} {H : Hp} {E : XK}
theorem madeE : MadeOk (cxOf (CXE P w) P w K mg base N qual scope f cd A outer s H E) E := by
 intro pins σ H1 s1 e C args h' I hm hE
 have neL : ∀ b o, s.heap.get? b = some o → b ≠ s.heap.objs.size := fun b o q => Nat.ne_of_lt (Heap.lt_size q)
 have hB : ∀ b o, s1.heap.get? b = some o → b ∉ frs (cxOf (CXE P w) P w K mg base N qual scope f cd A outer s H E).stack → (PySem.W.hideAll s1.heap (frs (cxOf (CXE P w) P w K mg base N qual scope f cd A outer s H E).stack)).get? b = some o := fun b o q hb => PySem.W.hideAll_get _ q hb
 have bs : (PySem.W.hideAll s1.heap (frs (cxOf (CXE P w) P w K mg base N qual scope f cd A outer s H E).stack)).StaysIn s1.heap := fun b o q => PySem.W.of_hideAll _ q
 refine wpAny_leaves_madeW (base := PySem.W.hideAll s1.heap (frs (cxOf (CXE P w) P w K mg base N qual scope f cd A outer s H E).stack)) (h := s1.heap) I.ok.frames rfl bs (PySem.W.funFrames_hide I.stack fun env he a ha => List.mem_filterMap.mpr ⟨env, he, ha⟩) hm fun h2 t fl _ _ up => ?_
 have c1 : ∀ b u, H1 b = some u → ∃ o, (PySem.W.hideAll s1.heap (frs (cxOf (CXE P w) P w K mg base N qual scope f cd A outer s H E).stack)).get? b = some o := fun b u q => by
  obtain ⟨o, ho⟩ := (I.hok b u q).there
  refine ⟨o, hB b o ho fun z => ?_⟩
  rw [I.stkFree b z] at q
  cases q
 have c2 : ∀ b o, s1.heap.get? b = some o → b ∉ frs (cxOf (CXE P w) P w K mg base N qual scope f cd A outer s H E).stack → ∃ o', (PySem.W.hideAll s1.heap (frs (cxOf (CXE P w) P w K mg base N qual scope f cd A outer s H E).stack)).get? b = some o' := fun b o q hb => ⟨o, hB b o q hb⟩
 have up2 : s1.heap.UpToSlots h2 := (Heap.UpToSlots.of_keeps hm.keeps).trans up
 refine ⟨e, C, .ref t, _, H1, none, rfl, I.os, I.bare, ?_, fly_hok I.hok bs fl.1 c1, fl, c1, fun b o q hb => ?_, ?_, hE⟩
 ·exact Un.under (L := s.heap.objs.size) I.base (fly_un Un.refl bs fl.1 up2 c2 I.hfs) neL
 ·obtain ⟨o1, q1⟩ := I.base.there b o q (fun z => nomatch z)
  exact c2 b o1 q1 fun z => (List.mem_cons.mp z).elim (neL b o q) hb
 ·obtain ⟨ob, h1, _⟩ := fl.there
  exact ⟨ob, h1, fun dx z => nomatch z⟩
end
theorem exc_obj {K : PySem.W.Frag} {h : Heap} {C : Addr} {bmB : List Value} {newId : String} (X : K.In h) (q : PySem.W.excIn K C bmB newId = true) :
  ∃ (bm : List Value) (N : Addr) (nm qn : Str) (bs : List Value) (hd : Bool) (sn : List Str) (sub : List Value) (ab : Bool) (col : Option Bool) (dd : Option Addr) (k0 k1 k2 k3 k5 : Option Value) (mN : Str → Option Value),
   h.get? C = some (excClassObj nm qn C N bs bm hd sn sub ab col dd k0 k1 k2 k3 k5 newId) ∧ h.Ns N mN ∧ mN "__init__" = none ∧ OwnTail h bmB bm := by
 unfold PySem.W.excIn at q
 split at q
 ·rename_i dd cd sl ho
  split at q
  ·rename_i C' bm k0 k1 k2 k3 n k5 hm hs
   simp only [Bool.and_eq_true, beq_iff_eq, Bool.not_eq_true'] at q
   have q1 := q.1.1.1.1.1
   have q2 := q.1.1.1.1.2
   have q3 := q.1.1.1.2
   have q4 := q.1.1.2
   have q5 := q.1.2
   have q6 := q.2
   subst q1 q2
   cases cd with
   | mk nm bs mro ns qn hd sn sub ab col del =>
    dsimp only at hm q3 q5 q6
    subst hm q3
    have hsl : sl = #[k0, k1, k2, k3, some (.builtin n), k5] := by
     cases sl with
     | mk l => simp only at hs; rw [hs]
    subst hsl
    have nn := PySem.W.nsMap_none_of_in X q5 q6
    exact ⟨bm, ns, nm, qn, bs, hd, sn, sub, ab, col, dd, k0, k1, k2, k3, k5, _, X _ _ ho, .of_isNs (PySem.W.isNs_of_in X q5), nn, PySem.W.tail_of_in X q4⟩
  ·cases q
 ·cases q
noncomputable def tRaise (C : Addr) (E : XK) (t : TA) : TS := fun _ σ H => t σ H fun vs H1 => vs.length ≤ 3 ∧ E (.ref C) none H1
section
variable {X : Cx} {E : XK} {C : Addr} {x : Str} {np cpos pos : Pos} {e : Expr} {es : List Expr} {t : TA}
theorem Vals.len3 {vs : List V} {us : List Value} (r : Vals vs us) (h : vs.length ≤ 3) : us.length ≤ sizeLine := by
 rw [← r.length]
 exact Nat.le_trans h (by decide)
theorem ps_raise {K : PySem.W.Frag} (hK : X.K = K) (hM : MadeOk X E) (T : ExcC K C) (hg : Gl X x) (hm : X.mg x = some (.ref C)) (ha : PA X (e :: es) t) (hc : X.calm = true := by rfl) (hdb : (x == ("__debug__" : Str)) = false := by decide)
  (he : starEach (e :: es) X.env = (false, eval e X.env) :: starEach es X.env := by rfl) (hpl : (backTo cpos (starEach es X.env)).any (·.1) = false := by rfl) :
  PS X (.Raise (some (.Call (.Name x np) (e :: es) [] cpos)) none pos) (tRaise C E t) := by
 subst hK
 intro pins s σ H D I h
 obtain ⟨bm, N, nm, qn, bs, hd, sn, sub, ab, col, dd, k0, k1, k2, k3, k5, mN, hC, hn, hni, OT⟩ := exc_obj I.ok.mod.kin T.exc
 refine wpAny_Raise_call_subT (C := C) (N := N) (nm := nm) (q := qn) (bs := bs) (bm := bm) (hdct := hd) (sn := sn) (sub := sub) (ab := ab) (col := col) (dd := dd) (k0 := k0) (k1 := k1) (k2 := k2) (k3 := k3) (k5 := k5) (mN := mN) F.excBase_ValueError (OT.hasType (by decide +kernel)) (I.ok.hd hc) ?_ hni ?_
 ·rw [he]
  show (false || (backTo cpos (starEach es X.env)).any (·.1)) = false
  rw [hpl]
  rfl
 ·refine ld_glob I hg hm ⟨rfl, ?_⟩ hdb
  have h2 := ha cpos pins s σ H _ I h
  rw [he] at h2 ⊢
  refine Calls.evalArgs_plain (wpAny_mono h2 (fun us s2 q => ?_) fun _ _ y => y)
  obtain ⟨vs, H1, I1, r, q1, q2⟩ := q
  refine ⟨rfl, r.len3 q1, I1.bk _ _ hC, hn.keeps I1.bk, OT.keeps I1.bk, fun h' e' hm' => ?_⟩
  exact hM pins σ H1 s2 e' C us h' I1 hm' q2
end
end L2
set_option Elab.async false
set_option linter.all false
set_option maxRecDepth 100000
namespace L2
open PySem PySem.Spec PyProof.Rows
noncomputable def PassesS (CX : CXT) (X : Cx) (σ0 : St) (E : XK) : Prop := ∀ (pins : List (Addr × Obj)) (H : Hp) (s : Shared) (e : Value) (s' : Shared), Inv X pins σ0 H s → CX X.stack H s E e s' → X.xe e s'
noncomputable def tCallS (σ0 : St) (sp : Sp) (E : XK) (t : TA) : TE := fun σ H Q => t σ H fun vs H1 => σ = σ0 ∧ sp vs H1 Q E
section
variable {X : Cx} {CX : CXT} {k : Nat} {ps : List Str} {sp : Sp} {E : XK} {x : Str} {p pos : Pos} {e : Expr} {es : List Expr} {t : TA} {σ0 : St}
theorem pe_fnS (F : FnB X.prog X.w X.K X.mg X.base CX k x ps sp) (hr : Room k X.A) (hg : Gl X x) (hx : PassesS CX X σ0 E)
  (ha : PA X (e :: es) t) (hdb : (x == ("__debug__" : Str)) = false := by decide) (he : starEach (e :: es) X.env = (false, eval e X.env) :: starEach es X.env := by rfl) (hpl : (backTo pos (starEach es X.env)).any (·.1) = false := by rfl) :
  PE X (.Call (.Name x p) (e :: es) [] pos) (tCallS σ0 sp E t) := by
 obtain ⟨f, fd, F1, hm, hk, hb⟩ := F.ex
 intro pins s σ H Q I h
 refine wpAny_Call_Name_kw (ld_glob I hg hm ?_ hdb)
 have ha2 := ha pos pins s σ H _ I h
 refine PySem.W.callWith_K (h₀ := X.base) I.ok.mod.kin hk (thn ha2 fun us s1 z => ?_) he hpl
 obtain ⟨vs, H1, I1, r, e0, q⟩ := z
 subst e0
 refine ⟨I1.kIn, ?_⟩
 have hl : us.length = ps.length := by
  rw [← r.length]
  exact F1.len _ _ _ _ q
 have hb2 := hb s1 us I1.kIn (by rw [List.append_nil]; exact hl)
 rw [List.append_nil] at hb2
 have run := F1.run X.A X.stack s1 H1 ⟨us, []⟩ us vs Q E hr I1.env0 hb2 r q
 refine wpAny_call (codeAny_mono run fun r' s' hq => ?_)
 match r', hq with
 | .error ev, hq => exact hx pins H1 s1 ev s' I1 hq
 | .ok (.ret u), hq => exact I1.after hq
 | .ok .next, hq => exact False.elim hq
 | .ok .brk, hq => exact False.elim hq
 | .ok .cont, hq => exact False.elim hq
end
noncomputable abbrev Cx.tryIn (X : Cx) (pn : List (Addr × Obj)) (W : Value → Shared → Prop) : Cx := { X with pn := pn, xe := W }
noncomputable abbrev Cx.suite (X : Cx) (ev : Value) : Cx := { X with A := X.A.mark (some ev), calm := false, xe := fun _ _ => False }
section
variable {X : Cx} {pins pins' pn : List (Addr × Obj)} {σ : St} {H : Hp} {s : Shared} {W : Value → Shared → Prop} {ev : Value} {D : Ends} {f : Flow}
theorem Cx.Ok.tryIn (ok : X.Ok) : (X.tryIn pn W).Ok :=
 ⟨ok.mod, ok.kind, ok.glob, ok.blt, ok.above, ok.inj, ok.has, ok.cab, ok.hd, ok.frames, ok.stk, ok.exf, ok.bs, ok.bsz, ok.noex, ok.exfs, ok.funs, ok.frf⟩
theorem Cx.Ok.tryOut (ok : (X.tryIn pn W).Ok) : X.Ok :=
 ⟨ok.mod, ok.kind, ok.glob, ok.blt, ok.above, ok.inj, ok.has, ok.cab, ok.hd, ok.frames, ok.stk, ok.exf, ok.bs, ok.bsz, ok.noex, ok.exfs, ok.funs, ok.frf⟩
theorem Inv.tryIn (I : Inv X pins σ H s) : Inv (X.tryIn (X.pn ++ pins) W) [] σ H s :=
 ⟨I.ok.tryIn, I.os, I.bare, I.base, I.loc, I.cell, I.free, I.freeC, fun p hp => I.pin p (by simpa using hp), I.hok, I.len⟩
theorem Inv.tryOut (I : Inv (X.tryIn (X.pn ++ pins) W) pins' σ H s) : Inv X pins σ H s :=
 ⟨I.ok.tryOut, I.os, I.bare, I.base, I.loc, I.cell, I.free, I.freeC, fun p hp => I.pin p (List.mem_append_left _ hp), I.hok, I.len⟩
theorem SP.tryOut (h : SP (X.tryIn (X.pn ++ pins) W) pins' D f s) : SP X pins D f s := by
 match f, h with
 | .next, ⟨σ', H', I, q⟩ => exact ⟨σ', H', I.tryOut, q⟩
 | .brk, ⟨σ', H', I, q⟩ => exact ⟨σ', H', I.tryOut, q⟩
 | .cont, ⟨σ', H', I, q⟩ => exact ⟨σ', H', I.tryOut, q⟩
 | .ret u, ⟨v, σ', H', I, r, q⟩ => exact ⟨v, σ', H', I.tryOut, r, q⟩
theorem Cx.Ok.suite (ok : X.Ok) : (X.suite ev).Ok :=
 ⟨ok.mod, ok.kind, ok.glob, ok.blt, ok.above, ok.inj, ok.has, ok.cab, (fun z => nomatch z), ok.frames, ok.stk, ok.exf, ok.bs, ok.bsz, ok.noex, ok.exfs, ok.funs, ok.frf⟩
theorem Inv.suite (I : Inv X pins σ H s) : Inv (X.suite ev) pins σ H s := ⟨I.ok.suite, I.os, I.bare, I.base, I.loc, I.cell, I.free, I.freeC, I.pin, I.hok, I.len⟩
theorem Inv.unsuite (ok : X.Ok) (I : Inv (X.suite ev) pins σ H s) : Inv X pins σ H s := ⟨ok, I.os, I.bare, I.base, I.loc, I.cell, I.free, I.freeC, I.pin, I.hok, I.len⟩
theorem Inv.track {a : Addr} {o : HO} (I : Inv X pins σ H s) (hn : H a = none) (h0 : ∀ b u, X.s₀.heap.get? b = some u → b ∉ X.ex → b ≠ a) (hl : X.env.locals ≠ a) (hc : ∀ x c, X.env.cells.lookup x = some c → c ≠ a)
  (hp : ∀ p ∈ X.pn ++ pins, p.1 ≠ a) (new : ObjOk X.prog X.w (upd H a o) s.heap a o) : Inv X pins σ (upd H a o) s := by
 refine ⟨I.ok, I.os, I.bare, ⟨I.base.keep, I.base.slot, fun b u q n hx => ?_, I.base.there, fun b xs q => ?_, fun b u xs q => ?_, fun b ps q => ?_⟩, I.loc, I.cell, ?_, fun x c e => ?_, fun p hq => ?_, fun b u q => ?_, I.len⟩
 ·rw [upd_ne (h0 b u q hx)]
  exact I.base.free b u q n hx
 ·have z := I.base.tups b xs q
  rw [upd_ne (ne_of_none z hn)]
  exact z
 ·have z := I.base.frzs b u xs q
  rw [upd_ne (ne_of_none z hn)]
  exact z
 ·obtain ⟨more, z⟩ := I.base.tbls b ps q
  exact ⟨more, by rw [upd_ne (ne_of_none z hn)]; exact z⟩
 ·rw [upd_ne hl]
  exact I.free
 ·rw [upd_ne (hc x c e)]
  exact I.freeC x c e
 ·obtain ⟨e1, e2, e3, e4, e5⟩ := I.pin p hq
  exact ⟨e1, by rw [upd_ne (hp p hq)]; exact e2, e3, e4, e5⟩
 ·by_cases hb : b = a
  ·subst hb
   rw [upd_same] at q
   cases q
   exact new
  ·rw [upd_ne hb] at q
   exact (I.hok b u q).stay (fun c v _ z => z) (fun c z => by rw [upd_ne (ne_of_none z hn)]; exact z) fun c xs z => by rw [upd_ne (ne_of_none z hn)]; exact z
theorem gone_ok {M : Model} {A : Around} {E : Value → Shared → Prop} {i : Nat} {n : Str} {pos : Pos} {Q : Unit → Shared → Prop} (I : Inv X pins σ H s) (hN : X.N.Nodup) (hi : X.N[i]? = some n) (hk : X.env.scope.names.lookup n = some .local)
  (h : ∀ s', Inv X pins (σ.set i none) H s' → Q () s') : wpAny M A (do bindName X.env n .none; unbindBehindTheSuite X.env n pos) Q E s := by
 obtain ⟨m, hn, hl⟩ := id I.loc
 have hcls : (X.env.scope.kind == .class || (X.env.scope.kind == .module && X.env.locals != X.env.globals)) = false := by rw [I.ok.kind]; rfl
 have hiσ : i < σ.length := by rw [I.len]; exact (List.getElem?_eq_some_iff.mp hi).1
 refine wpAny_nameGoes_keeps hk hn hcls fun h' v hn' hs => ?_
 obtain ⟨oL, _, _, hoL, _⟩ := id hn
 have other : ∀ b, b ≠ X.env.locals → h'.get? b = s.heap.get? b := fun b hb => hs.2 b hb
 have old : ∀ b o, X.s₀.heap.get? b = some o → b ≠ X.env.locals := fun b o q => Nat.ne_of_lt (Nat.lt_of_lt_of_le (Heap.lt_size q) I.ok.above)
 have ntr : ∀ b u, H b = some u → b ≠ X.env.locals := fun b u q z => by
  rw [z, I.free] at q
  cases q
 refine h _ ⟨I.ok, I.os, I.bare, ⟨fun b o e n hb hx => ?_, fun b o e n hb hx => ?_, I.base.free, fun b o e hx => ?_, I.base.tups, I.base.frzs, I.base.tbls⟩, ⟨_, hn', fun j y v' e1 e2 e3 => ?_⟩, fun y c e => ?_, I.free, I.freeC, fun p hp => ?_, fun b ob e => ?_, by simpa using I.len⟩
 ·exact (other b (old b o e)).trans (I.base.keep b o e n hb hx)
 ·obtain ⟨sl, e1⟩ := I.base.slot b o e n hb hx
  exact ⟨sl, (other b (old b o e)).trans e1⟩
 ·obtain ⟨o', e1⟩ := I.base.there b o e hx
  exact ⟨o', (other b (old b o e)).trans e1⟩
 ·by_cases hj : j = i
  ·subst hj
   rw [List.getElem?_set_self hiσ] at e2
   cases e2
  ·rw [List.getElem?_set_ne (Ne.symm hj)] at e2
   obtain ⟨u', r', q⟩ := hl j y v' e1 e2 e3
   refine ⟨u', r', ?_⟩
   rcases q with ⟨k, e⟩ | ⟨k, c, e, z⟩
   ·refine .inl ⟨k, ?_⟩
    have ne : y ≠ n := fun e => hj (nodup_ix hN e1 (e ▸ hi))
    simp [ne, e]
   ·exact .inr ⟨k, c, e, z.sameBut hs (I.cne y c e)⟩
 ·obtain ⟨w', z⟩ := I.cell y c e
  exact ⟨w', z.sameBut hs (I.cne y c e)⟩
 ·obtain ⟨e, n, ne, nf, d⟩ := I.pin p hp
  exact ⟨(other p.1 ne).trans e, n, ne, nf, d⟩
 ·refine (I.hok b ob e).stay (fun c w' hc q => (other c ?_).trans q) (fun _ q => q) fun _ _ q => q
  rcases hc with z | z
  ·rw [z]; exact ntr b ob e
  ·exact ntr c _ z
end
noncomputable def goneEnds (D : Ends) (i : Nat) : Ends := { nx := fun σ H => D.nx (σ.set i none) H, rt := D.rt, bk := fun σ H => D.bk (σ.set i none) H, ct := fun σ H => D.ct (σ.set i none) H }
noncomputable def tryE (K : PySem.W.Frag) (cD : Addr) (i : Nat) (th : TS) (D : Ends) (σ : St) : XK := fun cls od H' => ∃ C, cls = .ref C ∧ ExcB K C ∧ PySem.W.exmOne K (.ref C) (.ref cD) = some true ∧
 ∀ e, H' e = none → th (goneEnds D i) (σ.set i (some (.ref e))) (upd H' e (excD e C od))
noncomputable def tTry (K : PySem.W.Frag) (cD : Addr) (i : Nat) (tb : XK → St → TS) (th : TS) : TS := fun D σ H => tb (tryE K cD i th D σ) σ D σ H
section
variable {X : Cx} {body suite : List Stmt} {b₀ : Stmt} {x n : Str} {np hpos pos : Pos} {i : Nat} {cD : Addr} {tb : XK → St → TS} {th : TS} {K : PySem.W.Frag}
theorem excD_ok {P : Program} {w : World} {H : Hp} {h : Heap} {e C : Addr} {od : Option Addr} (x : IsExcD e C od h) : ObjOk P w H h e (excD e C od) := by
 refine ⟨x, ?_, fun h1 h2 y k => ?_⟩
 ·obtain ⟨o, vs, q, _⟩ := x
  exact ⟨o, q⟩
 ·obtain ⟨o, vs, q, r⟩ := y
  exact ⟨o, vs, k o q, r⟩
theorem ps_try (hK : X.K = K) (hb : ∀ (pn : List (Addr × Obj)) (W : Value → Shared → Prop) (E : XK) (σ0 : St), PassesS (CXE X.prog X.w) (X.tryIn pn W) σ0 E → PSs (X.tryIn pn W) body (tb E σ0))
  (hh : ∀ ev, PSs (X.suite ev) (b₀ :: suite) th) (hst : X.stack = X.env :: X.outer := by rfl) (hf : X.env.frame = some X.env.locals := by rfl) (hN : X.N.Nodup) (hi : X.N[i]? = some n) (hl : X.env.scope.names.lookup n = some .local)
  (hg : Gl X x) (hm : X.mg x = some (.ref cD)) (hdb : (x == ("__debug__" : Str)) = false := by decide) :
  PS X (.Try body [.ExceptHandler (some (.Name x np)) (some n) (b₀ :: suite) hpos] [] [] pos) (tTry K cD i tb th) := by
 subst hK
 intro pins s σ H D I h
 refine wpAny_Try_except ?_
 have hp : PassesS (CXE X.prog X.w) (X.tryIn (X.pn ++ pins) fun ev s₁ => wpAny (model X.prog X.w) X.A (noteFrame ev X.env) (fun _ s₂ => wpAny (model X.prog X.w) X.A (setFlight ev none) (fun _ s₃ => wpAny (model X.prog X.w) X.A (handleBy ev X.env [.ExceptHandler (some (.Name x np)) (some n) (b₀ :: suite) hpos]) (SP X pins D) X.xe s₃) X.xe s₂) X.xe s₁) σ (tryE X.K cD i th D σ) := by
  intro pins' H1 s1 ev s' I1 hc
  obtain ⟨e, C, a0, B, H', od, rfl, os, bare, un, hok, fl, c1, c2, hd, C', hcc, T, hx, hth⟩ := hc
  cases hcc
  have hfr : X.A.frames = some (X.env :: X.outer) := I.ok.frames.trans (by rw [hst])
  have fl1 : Heap.FlyingW B (X.env :: X.outer) e (.ref C) a0 s'.heap := by
   have z : Heap.FlyingW B X.stack e (.ref C) a0 s'.heap := fl
   rw [hst] at z
   exact z
  refine wpAny_mono (kd_note.any (wpAny_looks_onW (Q := fun _ s2 => ∃ h4, s2 = { s' with heap := h4 } ∧ Heap.HeldW B (X.env :: X.outer) e (.ref C) a0 X.env.locals h4 ∧ s'.heap.UpToSlots h4) (E := fun _ _ => False) hfr hf fl1 fun h4 held up4 => ⟨h4, rfl, held, up4⟩)) (fun _ s2 hq => ?_) fun _ _ z => z.1.elim
  obtain ⟨⟨h4, rfl, held, up4⟩, dk4⟩ := hq
  refine wpAny_mono (kd_flight.any (wpAny_landsW (Q := fun _ s2 => ∃ h5, s2 = { s' with heap := h5 } ∧ Heap.FlyingW B (X.env :: X.outer) e (.ref C) a0 h5 ∧ h4.UpToSlots h5) (E := fun _ _ => False) held fun h5 fl5 up5 => ⟨h5, rfl, fl5, up5⟩)) (fun _ s2 hq => ?_) fun _ _ z => z.1.elim
  obtain ⟨⟨h5, rfl, fl5, up5⟩, dk5⟩ := hq
  have mk : ∀ h6, B.StaysIn h6 → s'.heap.UpToSlots h6 → Inv X pins σ H' { s' with heap := h6 } := fun h6 st up => by
   have J := I1.call' (s' := { s' with heap := h6 }) (ch := []) os (fly_un un fl.1 st up c2 I1.hfs) (fly_hok hok fl.1 st c1) bare (fun b z => nomatch z)
   exact J.tryOut
  have ne1 : ∀ h6, Heap.FlyingW B (X.env :: X.outer) e (.ref C) a0 h6 → s'.heap.UpToSlots h6 → ∀ b o, s1.heap.get? b = some o → b ≠ e := fun h6 fl6 up b o q z => by
   by_cases hb : b ∈ frs X.stack
   ·obtain ⟨hn, o2, ho2, nf⟩ := I1.hfs b hb
    rw [q] at ho2
    cases ho2
    obtain ⟨sl, e1⟩ := un.slot b o q hn hb (fun z => nomatch z)
    obtain ⟨sl', e2⟩ := up b _ e1 nf
    obtain ⟨oe, vs, he, _, hd, _⟩ := fl6.first
    rw [z, he] at e2
    cases e2
    exact nf vs hd
   ·obtain ⟨o', hB⟩ := c2 b o q hb
    rw [z, fl6.2.1] at hB
    cases hB
  have hne : H' e = none := by
   cases q : H' e with
   | none => rfl
   | some u =>
    obtain ⟨o, hB⟩ := c1 e u q
    rw [fl.2.1] at hB
    cases hB
  refine wpAny_handleBy_cons (codeAny_handlers_test ?_) (by intro q; cases q)
  have J5 := mk h5 fl5.1 (up4.trans up5)
  refine ld_glob (X := X.suite (.ref e)) J5.suite hg hm ?_ hdb
  have LT : PySem.W.Looks (model X.prog X.w) h5 (typeOf (.ref e)) (.ref C) := by
   obtain ⟨oe, ho, hc⟩ := fl5.there
   exact hc ▸ (PySem.W.Looks.ld ho).andThen .now
  refine (PySem.W.exm_one J5.kIn LT hx).here ?_
  show codeAny _ _ _ _ _
  refine codeAny_handlers_suite_as ?_
  refine wpAny_mono (kd_flight.any (lands_againW (Q := fun _ s2 => ∃ h6, s2 = { s' with heap := h6 } ∧ Heap.FlyingW B (X.env :: X.outer) e (.ref C) a0 h6 ∧ h5.UpToSlots h6) (E := fun _ _ => False) fl5 fun h6 fl6 up6 => ⟨h6, rfl, fl6, up6⟩)) (fun _ s2 hq => ?_) fun _ _ z => z.1.elim
  obtain ⟨⟨h6, rfl, fl6, up6⟩, dk6⟩ := hq
  have up := (up4.trans up5).trans up6
  have J6 := mk h6 fl6.1 up
  have ne := ne1 h6 fl6 up
  have IE : IsExc e C h6 := by
   obtain ⟨oe, vs, he, hc, hd, _⟩ := fl6.first
   exact ⟨oe, vs, he, hc, hd⟩
  have nf : ∀ b o, h6.get? b = some o → (∀ vs, o.data ≠ .fields vs) → b ≠ e := fun b o q d z => by
   obtain ⟨oe, vs, he, hc, hd⟩ := IE
   rw [z, he] at q
   cases q
   exact d vs hd
  have ID : IsExcD e C od h6 := by
   obtain ⟨o0, z1, z2⟩ := hd
   obtain ⟨o4, z3, z4⟩ := dk4 e o0 z1
   obtain ⟨o5, z5, z6⟩ := dk5 e o4 z3
   obtain ⟨o6, z7, z8⟩ := dk6 e o5 z5
   obtain ⟨o, vs, he, hc, hv⟩ := IE
   have e6 := he.symm.trans z7
   cases e6
   exact ⟨_, vs, he, hc, hv, fun dx z => z8.trans (z6.trans (z4.trans (z2 dx z)))⟩
  have J7 : Inv X pins σ (upd H' e (excD e C od)) { s' with heap := h6 } := by
   refine J6.track hne (fun b u q hx => ?_) ?_ (fun y c q => ?_) (fun p hp => ?_) (excD_ok ID)
   ·obtain ⟨o1, q1⟩ := I1.base.there b u q hx
    exact ne b o1 q1
   ·obtain ⟨m, ⟨oL, es, ep, hoL, hdL, _⟩, _⟩ := J6.loc
    exact nf _ _ hoL fun vs q => by rw [hdL] at q; cases q
   ·obtain ⟨v, oc, hoc, hdc⟩ := J6.cell y c q
    exact nf _ _ hoc fun vs q => by rw [hdc] at q; cases q
   ·obtain ⟨q1, _⟩ := I1.pin p (List.mem_append_left _ hp)
    exact ne _ _ q1
  refine store_ok (X := X.suite (.ref e)) (v := .ref e) J7.suite hN hi (.inl hl) rfl (fun s7 J8 => ?_) (.inr hl)
  refine wpAny_mono (hh (.ref e) pins s7 _ _ (goneEnds D i) J8 (hth e hne)) (fun fl s8 q => ?_) fun _ _ z => False.elim z
  match fl, q with
  | .next, ⟨σ', H'', J9, q⟩ => exact gone_ok (J9.unsuite I.ok) hN hi hl fun s9 Jz => ⟨_, _, Jz, q⟩
  | .brk, ⟨σ', H'', J9, q⟩ => exact gone_ok (J9.unsuite I.ok) hN hi hl fun s9 Jz => ⟨_, _, Jz, q⟩
  | .cont, ⟨σ', H'', J9, q⟩ => exact gone_ok (J9.unsuite I.ok) hN hi hl fun s9 Jz => ⟨_, _, Jz, q⟩
  | .ret u, ⟨v, σ', H'', J9, r, q⟩ => exact gone_ok (J9.unsuite I.ok) hN hi hl fun s9 Jz => ⟨v, _, _, Jz, r, q⟩
 refine wpAny_mono (hb _ _ _ _ hp [] s σ H D I.tryIn h) (fun fl s1 q => ?_) fun _ _ z => z
 have q := SP.tryOut q
 match fl, q with
 | .next, ⟨σ', H', J, q⟩ => exact pss_nil pins s1 σ' H' D J q
 | .brk, q => exact q
 | .cont, q => exact q
 | .ret u, q => exact q
end
end L2
namespace L2
open PySem PySem.Spec PyProof.Rows
theorem FnB.imp {P : Program} {w : World} {K : PySem.W.Frag} {mg : Str → Option Value} {base : Heap} {CX : CXT} {k : Nat} {x : Str} {ps : List Str} {sp sp' : Sp} (F : FnB P w K mg base CX k x ps sp) (h : ∀ vs H Q E, sp' vs H Q E → sp vs H Q E) : FnB P w K mg base CX k x ps sp' := by
 obtain ⟨f, fd, h1, h2, h3, h4⟩ := F.ex
 exact ⟨f, fd, h1.imp h, h2, h3, h4⟩
section
variable {P : Program} {w : World} {K : PySem.W.Frag} {mg : Str → Option Value} {base : Heap} {x qual : Str} {st : Stmt} {f : Addr} {fd : FuncData} {N ps : List Str} {k : Nat} {sp : Sp}
theorem okE (F : Fun K x qual st f fd) (S : FnScope N ps (defScope st)) (len : ∀ vs H Q E, sp vs H Q E → vs.length = ps.length)
  (hb : ∀ (cdv : Value) (A : Around) (outer : List Env) (s : Shared) (H : Hp) (vs : List V) (Q : VK) (E : XK), Room k (A.deeper (envOfC qual (defScope st) s.heap.objs.size f cdv)) → sp vs H Q E →
   ∃ t, PSs (cxOf (CXE P w) P w K mg base N qual (defScope st) f cdv A outer s H E) (defBody st) t ∧ t { nx := fun _ H' => Q .non H', rt := Q } (start N vs) H) : FnOk P w K mg base (CXE P w) (k + 1) f fd ps sp := by
 have e := F.ex
 obtain ⟨oc, od, kV, doc, pm, an, cdv, ct, osl, e, lk, hcd⟩ := e
 subst e
 exact fn_of lk hcd S len (hb cdv)
theorem okN (F : Fun K x qual st f fd) (S : FnScope N ps (defScope st)) (len : ∀ vs H Q E, sp vs H Q E → vs.length = ps.length)
  (hb : ∀ (cdv : Value) (A : Around) (outer : List Env) (s : Shared) (H : Hp) (vs : List V) (Q : VK) (E : XK), Room k (A.deeper (envOfC qual (defScope st) s.heap.objs.size f cdv)) → sp vs H Q E →
   ∃ t, PSs (cxOf (CXE P w) P w K mg base N qual (defScope st) f cdv A outer s H E).nox (defBody st) t ∧ t { nx := fun _ H' => Q .non H', rt := Q } (start N vs) H) : FnOk P w K mg base (CXE P w) (k + 1) f fd ps sp :=
 okE F S len fun cdv A outer s H vs Q E hr h => by
  obtain ⟨t, h1, h2⟩ := hb cdv A outer s H vs Q E hr h
  exact ⟨t, h1.nox, h2⟩
end
theorem rIsiX_c {K : PySem.W.Frag} {a C D : Addr} {od : Option Addr} {b : Bool} {H : Hp} {Q : VK} (h1 : H a = some (excD a C od)) (h2 : ExcB K C) (h3 : PySem.W.kitOne K (.ref C) (.ref D) = some b) (h4 : Q (.bl b) H) : rIsiX K [.ref a, .ref D] H Q := ⟨a, C, od, rfl, h1, h2, .inl ⟨D, b, rfl, h3, h4⟩⟩
theorem rIsiXT_2 {K : PySem.W.Frag} {a C D E tp : Addr} {od : Option Addr} {b : Bool} {H : Hp} {Q : VK} (h1 : H a = some (excD a C od)) (h2 : ExcB K C) (h0 : H tp = some (.tup [.ref D, .ref E])) (h3 : PySem.W.kitAny K (.ref C) [.ref D, .ref E] = some b) (h4 : Q (.bl b) H) : rIsiXT K [.ref a, .ref tp] H Q := ⟨a, C, tp, od, [D, E], b, rfl, h1, h2, h0, h3, h4⟩
end L2
set_option Elab.async false
set_option linter.all false
set_option maxRecDepth 100000
set_option Elab.async false
set_option linter.all false
set_option maxRecDepth 100000
namespace L2
open PySem PySem.Spec PyProof.Rows
noncomputable def Itz (K : PySem.W.Frag) (a b : Addr) : It :=
 ⟨fun i H => ∃ xs ys, SqL K H a xs ∧ SqL K H b ys ∧ i < min xs.length ys.length,
  fun i H v H' => ∃ t, v = .ref t ∧ H t = none ∧ ∀ xs ys x y, SqL K H a xs → SqL K H b ys → xs[i]? = some x → ys[i]? = some y → H' = upd H t (.tup [x, y]),
  fun i H => ∃ xs ys, SqL K H a xs ∧ SqL K H b ys ∧ i = min xs.length ys.length⟩
noncomputable def iZip (K : PySem.W.Frag) (ta : TA) : TI := fun σ H R => ta σ H fun vs H1 => ∃ a b, vs = [.ref a, .ref b] ∧ (∃ xs, SqL K H1 a xs) ∧ (∃ ys, SqL K H1 b ys) ∧ R (Itz K a b) H1
theorem zip_apart {n l1 l2 : Nat} (h1 : l1 < n) (h2 : l2 < n) : ZipApart (n + 4) (n + 2) (n + 3) n (n + 1) l1 l2 := by
 constructor <;> (first | (intro h; have h : (_ : Nat) = _ := h; omega) | (show (_ : Nat) ≠ _; omega))
section
variable {X : Cx}
theorem zip_inv {X : Cx} {pins : List (Addr × Obj)} {σ : St} {H : Hp} {s : Shared} {h' : Heap} {tk : Nat} {wr : List Addr} {T : Addr} {x y : V} {u v : Value} (I : Inv X pins σ H s) (hf : ∀ b ∈ wr, FpOk X pins H b) (hT : s.heap.objs.size ≤ T)
  (ht : h'.IsTuple T #[u, v]) (rx : RelV x u) (ry : RelV y v) (k : ∀ b o, b ∉ wr → s.heap.get? b = some o → h'.get? b = some o) : Inv X pins σ (upd H T (.tup [x, y])) { s with heap := h', toks := tk } := by
 have hn : H T = none := I.hok.fresh hT
 have tr : ∀ b w, H b = some w → b ∉ wr := fun b w e z => by rw [(hf b z).1] at e; cases e
 refine I.step (g' := s.gens) (d' := s.drawn) (ch := wr) (fun b hb => ?_) (fun b o _ _ hc e _ => k b o hc e) (fun b o _ _ hc e _ => ⟨o.slots, k b o hc e⟩) (fun b o hc e n => ?_) (fun b o hc e => ⟨o, k b o hc e⟩) (fun b xs e => ?_) (fun b o w e => ?_) (fun b ps e => ?_) (fun m hm => ?_) (fun b w e => ?_) I.bare
 ·obtain ⟨f0, f1, f2, f3, f4, f5⟩ := hf b hb
  exact ⟨f3, f1, f4, f5⟩
 ·rw [upd_ne (Nat.ne_of_lt (Nat.lt_of_lt_of_le (Heap.lt_size e) hT))]
  exact n
 ·rw [upd_ne (ne_of_none e hn)]
  exact e
 ·rw [upd_ne (ne_of_none e hn)]
  exact e
 ·exact ⟨#[], by rw [upd_ne (ne_of_none e hn), e]; simp⟩
 ·obtain ⟨o, es, ep, ho, r⟩ := hm
  exact ⟨o, es, ep, k _ o (fun z => (hf _ z).2.1 rfl) ho, r⟩
 ·by_cases hb : b = T
  ·subst hb
   rw [upd_same] at e
   cases e
   exact ⟨show 2 ≤ sizeLine by decide, [u, v], .cons rx (.cons ry .nil), ht⟩
  ·rw [upd_ne hb] at e
   refine (I.hok b w e).stay (fun c z hc q => k c z ?_ q) (fun c q => by rw [upd_ne (ne_of_none q hn)]; exact q) fun c xs q => by rw [upd_ne (ne_of_none q hn)]; exact q
   rcases hc with rfl | hc
   ·exact tr _ _ e
   ·exact tr _ _ hc
theorem turn_zip {P : Program} {w : World} {K : PySem.W.Frag} {elts : List Expr} {kk : Nat} {pos : Pos} (n l1 l2 : Addr) (h1 : l1 < n) (h2 : l2 < n) : Turn P w K (.Tuple elts kk pos) (Itz K l1 l2) [n + 4, n + 2, n + 3, n, n + 1] (n + 4)
  (fun i h => IsZip h (n + 4) (n + 2) (n + 3) .none ∧ IsPair h (n + 2) (.ref n) (.ref (n + 1)) ∧ (∃ a b, IsPair h (n + 3) a b) ∧ h.IsListIter n l1 i ∧ h.IsListIter (n + 1) l2 i) where
 mem := by simp
 obj := fun i h st b hb => by
  obtain ⟨z1, z2, ⟨a, c, z3⟩, ⟨o1, e1, c1, d1⟩, ⟨o2, e2, c2, d2⟩⟩ := st
  simp only [List.mem_cons, List.not_mem_nil, or_false] at hb
  rcases hb with rfl | rfl | rfl | rfl | rfl
  ·exact ⟨_, z1, fun v q => by cases q⟩
  ·exact ⟨_, z2, fun v q => by cases q⟩
  ·exact ⟨_, z3, fun v q => by cases q⟩
  ·exact ⟨_, e1, fun v q => by rw [d1] at q; cases q⟩
  ·exact ⟨_, e2, fun v q => by rw [d2] at q; cases q⟩
 keep := fun i h h' st k => by
  obtain ⟨z1, z2, ⟨a, c, z3⟩, z4, z5⟩ := st
  exact ⟨k _ (by simp) _ z1, k _ (by simp) _ z2, ⟨a, c, k _ (by simp) _ z3⟩, z4.at fun o e => k _ (by simp) o e, z5.at fun o e => k _ (by simp) o e⟩
 item := by
  intro X hP hw hK hc i pins s σ H E I hf st hg
  subst hP hw hK
  obtain ⟨xs, ys, q1, q2, hi⟩ := hg
  obtain ⟨us, r1, p1, _⟩ := I.list q1
  obtain ⟨vs, r2, p2, _⟩ := I.list q2
  obtain ⟨z1, z2, z3, z4, z5⟩ := st
  have W := WalksT.zip2 (prog := X.prog) (w := X.w) (I.ok.hd hc) (n + 4) (n + 2) (n + 3) n (n + 1) l1 l2 (zip_apart h1 h2) us.toArray vs.toArray
  have len1 := r1.length
  have len2 := r2.length
  refine W.item i s _ _ (by simp only [List.size_toArray]; omega) ⟨z1, z2, z3, z4, z5, p1.isList, p2.isList⟩ fun T vals h' tk hPt hT hTup hMid hk => ?_
  obtain ⟨u, v, hu, hv, rfl⟩ := hPt
  refine ⟨.ref T, rfl, W.go elts kk pos i T _ _ _ hMid fun h'' st' hk' => ?_⟩
  have hx1 : i < xs.length := by omega
  have hy1 : i < ys.length := by omega
  obtain ⟨x, hx⟩ : ∃ x, xs[i]? = some x := ⟨_, List.getElem?_eq_getElem hx1⟩
  obtain ⟨y, hy⟩ : ∃ y, ys[i]? = some y := ⟨_, List.getElem?_eq_getElem hy1⟩
  obtain ⟨u', eu, rx⟩ := r1.get hx
  obtain ⟨v', ev, ry⟩ := r2.get hy
  have e1 : u' = u := by
   have z : us[i]? = some u := by simpa using hu
   rw [eu] at z
   exact Option.some.inj z
  have e2 : v' = v := by
   have z : vs[i]? = some v := by simpa using hv
   rw [ev] at z
   exact Option.some.inj z
  subst e1 e2
  have ap := W.apart i T h' hMid
  have ht2 : h''.IsTuple T #[u', v'] := hTup.at fun o e => hk' T o ap e
  have J := zip_inv (tk := tk) (h' := h'') I (wr := [n + 4, n + 3, n, n + 1]) (fun b hb => hf b (by simp only [List.mem_cons, List.not_mem_nil, or_false] at hb ⊢; rcases hb with rfl | rfl | rfl | rfl <;> simp)) hT ht2 rx ry (fun b o hb e => hk' b o hb (hk b o hb e))
  refine ⟨.ref T, _, J, rfl, ⟨T, rfl, I.hok.fresh hT, fun xs' ys' x' y' a1 a2 a3 a4 => ?_⟩, ⟨st'.1, st'.2.1, st'.2.2.1, st'.2.2.2.1, st'.2.2.2.2.1⟩, fun b hb => ?_⟩
  ·rw [I.list_inj a1 q1, hx] at a3
   rw [I.list_inj a2 q2, hy] at a4
   cases a3
   cases a4
   rfl
  ·have hb0 := (hf b hb).1
   have hlt : b < s.heap.objs.size := by
    obtain ⟨o1, e1, _⟩ := z4
    obtain ⟨o2, e2, _⟩ := z5
    obtain ⟨a, c, z3⟩ := z3
    simp only [List.mem_cons, List.not_mem_nil, or_false] at hb
    rcases hb with rfl | rfl | rfl | rfl | rfl
    ·exact Heap.lt_size z1
    ·exact Heap.lt_size z2
    ·exact Heap.lt_size z3
    ·exact Heap.lt_size e1
    ·exact Heap.lt_size e2
   rw [upd_ne (Nat.ne_of_lt (Nat.lt_of_lt_of_le hlt hT))]
   exact hb0
 done := by
  intro X hP hw hK hc i pins s σ H E I hf st hg
  subst hP hw hK
  obtain ⟨xs, ys, q1, q2, hi⟩ := hg
  obtain ⟨us, r1, p1, _⟩ := I.list q1
  obtain ⟨vs, r2, p2, _⟩ := I.list q2
  obtain ⟨z1, z2, z3, z4, z5⟩ := st
  have W := WalksT.zip2 (prog := X.prog) (w := X.w) (I.ok.hd hc) (n + 4) (n + 2) (n + 3) n (n + 1) l1 l2 (zip_apart h1 h2) us.toArray vs.toArray
  have e : i = min us.toArray.size vs.toArray.size := by
   simp only [List.size_toArray]
   rw [← r1.length, ← r2.length]
   exact hi
  subst e
  refine W.done s _ _ ⟨z1, z2, z3, z4, z5, p1.isList, p2.isList⟩ fun h' tk hk => ⟨rfl, ?_⟩
  have tr : ∀ b w, H b = some w → b ∉ [n + 4, n + 3, n, n + 1] := fun b w e z => by
   rw [(hf b (by simp only [List.mem_cons, List.not_mem_nil, or_false] at z ⊢; rcases z with rfl | rfl | rfl | rfl <;> simp)).1] at e
   cases e
  have hf' : ∀ b ∈ [n + 4, n + 3, n, n + 1], FpOk X pins H b := fun b hb => hf b (by simp only [List.mem_cons, List.not_mem_nil, or_false] at hb ⊢; rcases hb with rfl | rfl | rfl | rfl <;> simp)
  refine I.step (g' := s.gens) (d' := s.drawn) (ch := [n + 4, n + 3, n, n + 1]) (fun b hb => ?_) (fun b o _ _ hc e _ => hk b o hc e) (fun b o _ _ hc e _ => ⟨o.slots, hk b o hc e⟩) (fun b o hc e n => n) (fun b o hc e => ⟨o, hk b o hc e⟩) (fun b xs e => e) (fun b o w e => e) (fun b ps e => ⟨#[], by rw [e]; simp⟩) (fun m hm => ?_) (fun b w e => ?_) I.bare
  ·obtain ⟨f0, f1, f2, f3, f4, f5⟩ := hf' b hb
   exact ⟨f3, f1, f4, f5⟩
  ·obtain ⟨o, es, ep, ho, r⟩ := hm
   exact ⟨o, es, ep, hk _ o (fun z => (hf' _ z).2.1 rfl) ho, r⟩
  ·refine (I.hok b w e).stay (fun c z hc q => hk c z ?_ q) (fun _ q => q) fun _ _ q => q
   rcases hc with rfl | hc
   ·exact tr _ _ e
   ·exact tr _ _ hc
 self := fun A i s Q E st q => wpAny_pyIter_zip st.1 q
theorem pi_zip {a b : Expr} {ta : TA} {p pos tpos : Pos} {elts : List Expr} {kk : Nat} {K : PySem.W.Frag} (hK : X.K = K) (hg : Gl X "zip") (hm : X.mg "zip" = none) (ha : PA X [a, b] ta) (hs : starEach [a, b] X.env = [(false, eval a X.env), (false, eval b X.env)] := by rfl) (hs2 : starEach [b] X.env = [(false, eval b X.env)] := by rfl) :
  PI X (.Tuple elts kk tpos) (.Call (.Name "zip" p) [a, b] [] pos) (iZip K ta) := by
 subst hK
 intro pins s σ H R I h
 refine Call_ (ld_blt I hg hm boot_zip (PyProof.Rows.callWith_type1 (thn (ha pos pins s σ H _ I h) fun us s1 z => ?_) (by rw [hs, hs2]) (by rw [hs2]; rfl)))
 obtain ⟨vs, H1, I1, r1, l1, l2, rfl, ⟨xs, q1⟩, ⟨ys, q2⟩, q⟩ := z
 obtain ⟨u, v, rfl, ru, rv⟩ := r1.two
 obtain rfl : u = Value.ref l1 := ru
 obtain rfl : v = Value.ref l2 := rv
 obtain ⟨is1, s1', p1, _⟩ := I1.list q1
 obtain ⟨is2, s2', p2, _⟩ := I1.list q2
 have b1 : l1 < s1.heap.objs.size := by
  obtain ⟨o, e, _⟩ := p1.isList
  exact Heap.lt_size e
 have b2 : l2 < s1.heap.objs.size := by
  obtain ⟨o, e, _⟩ := p2.isList
  exact Heap.lt_size e
 refine call_zip_2 p1.isList p2.isList fun h' hz hTI hTO hi1 hi2 hsz hk => ?_
 refine wpAny_pyIter_zip hz ?_
 refine ⟨_, _, _, _, H1, rfl, I1.kept (t' := s1.toks) hk, turn_zip s1.heap.objs.size l1 l2 b1 b2, ⟨hz, hTI, ⟨_, _, hTO⟩, hi1, hi2⟩, fun b hb => ?_, q⟩
 simp only [List.mem_cons, List.not_mem_nil, or_false] at hb
 have hle : s1.heap.objs.size ≤ b := by
  rcases hb with rfl | rfl | rfl | rfl | rfl <;> omega
 exact I1.fpOk hle (I1.hok.fresh hle)
end
section
variable {K : PySem.W.Frag} {a b : Addr} {xs ys : List V} {ta : TA} {g : TG} {tb : TS} {Dn : Ends} {σ : St} {H : Hp}
theorem tfor_zip (Ra : Addr → Addr → Hp → Prop) (ha : ∀ R : List V → Hp → Prop, (∀ a b H1, Ra a b H1 → R [.ref a, .ref b] H1) → ta σ H R)
  (hb : ∀ a b H1, Ra a b H1 → ∃ xs ys, ∃ Pv : Nat → St → Hp → Prop, xs.length = ys.length ∧ Pv 0 σ H1 ∧ (∀ i σ H, i ≤ xs.length → Pv i σ H → SqL K H a xs ∧ SqL K H b ys) ∧
   (∀ i x y t σ H, xs[i]? = some x → ys[i]? = some y → Pv i σ H → H t = none → g (.ref t) σ (upd H t (.tup [x, y])) fun σ2 H2 => tb { Dn with nx := Pv (i + 1), ct := Pv (i + 1), bk := Dn.nx } σ2 H2) ∧ ∀ σ H, Pv xs.length σ H → Dn.nx σ H) :
  tFor (iZip K ta) g tb Dn σ H := by
 refine ha _ fun a b H1 q => ?_
 obtain ⟨xs, ys, Pv, hl, h0, hq, hs, hd⟩ := hb a b H1 q
 obtain ⟨s1, s2⟩ := hq 0 σ H1 (Nat.zero_le _) h0
 refine ⟨a, b, rfl, ⟨xs, s1⟩, ⟨ys, s2⟩, fun i m σ H => Pv i σ H ∧ i ≤ xs.length ∧ m = xs.length - i, ⟨_, h0, Nat.zero_le _, rfl⟩, ?_⟩
 rintro i m σ H ⟨p, hi, rfl⟩
 obtain ⟨s1, s2⟩ := hq i σ H hi p
 rcases Nat.lt_or_eq_of_le hi with hi | hi
 ·right
  refine ⟨⟨xs, ys, s1, s2, by omega⟩, fun σ' H' => Pv (i + 1) σ' H', fun σ' H' p' => ⟨xs.length - (i + 1), by omega, p', by omega, rfl⟩, ?_⟩
  rintro v H' ⟨t, rfl, hn, e⟩
  obtain ⟨x, hx⟩ : ∃ x, xs[i]? = some x := ⟨_, List.getElem?_eq_getElem hi⟩
  obtain ⟨y, hy⟩ : ∃ y, ys[i]? = some y := ⟨_, List.getElem?_eq_getElem (by omega)⟩
  rw [e xs ys x y s1 s2 hx hy]
  exact hs i x y t σ H hx hy p hn
 ·left
  exact ⟨⟨xs, ys, s1, s2, by omega⟩, hd σ H (hi ▸ p)⟩
end
end L2
set_option Elab.async false
set_option linter.all false
set_option maxRecDepth 100000
namespace L2
open PySem PySem.Spec PyProof.Rows
noncomputable def tRaise0 (C : Addr) (E : XK) : TS := fun _ _ H => E (.ref C) none H
end L2
set_option Elab.async false
set_option linter.all false
set_option maxRecDepth 100000
open PySem PySem.Spec PyProof.Rows
namespace L2
noncomputable abbrev veB : List Value := [.type "ValueError", .type "Exception", .type "BaseException", .type "object"]
theorem made_two {h : Heap} {C : Addr} {rest : List Value} : h.MadeExcOf ((h.push { cls := .type "tuple", data := .seq rest.toArray }).push
   { cls := .ref C, data := .fields #[.ref h.objs.size, .none, .none, .none, .bool false, .none] }) (h.objs.size + 1) (.ref C) rest := by
 have e1 : (h.push { cls := .type "tuple", data := .seq rest.toArray }).objs.size = h.objs.size + 1 := Heap.size_push _ _
 refine ⟨fun b o e => Heap.get?_push_of_some _ (Heap.get?_push_of_some _ e), Heap.get?_none_of_le (Nat.le_succ _), h.objs.size, ?_, Heap.get?_none_of_le (Nat.le_refl _), ?_⟩
 ·rw [← e1]
  exact Heap.get?_push_size _ rfl
 ·exact Heap.get?_push_of_some _ (Heap.get?_push_size _ rfl)
theorem type_call_init {prog : Program} {w : World} {A : Around} {E : Value → Shared → Prop} {h : Heap} {g : Array GenState} {d : Drawn} {t : Nat} {os : OsState} {nm q : Str} {C N : Addr} {bs bm : List Value} {hdct : Bool} {sn : List Str} {sub : List Value} {ab : Bool} {col : Option Bool}
  {dd : Option Addr} {k0 k1 k2 k3 k5 : Option Value} (OT : OwnTail h veB bm) {mN : Str → Option Value} {rest : List Value} {fI : Addr} {oI : Obj} {Q : PySem.Fin → Shared → Prop}
  (hC : h.get? C = some (excClassObj nm q C N bs bm hdct sn sub ab col dd k0 k1 k2 k3 k5 "ValueError.__new__")) (hN : h.Ns N mN) (hi : mN "__init__" = some (.ref fI)) (hf : h.get? fI = some oI) (hcf : oI.cls = .type "function")
  (hq : ∀ (h' : Heap) (e : Addr), h.MadeExcOf h' e (.ref C) rest → wpAny (model prog w) A (call (.ref fI) (.ref e :: rest)) (fun r s' => r = .none ∧ Q (.done (.ret (.ref e))) s') E ⟨h', g, d, t, os⟩)
  (hl : rest.length ≤ sizeLine) : wpAny (model prog w) A (Builtin.«type.__call__» ⟨.ref C :: rest, []⟩) Q E ⟨h, g, d, t, os⟩ := by
 have hne : (Value.ref C == Value.type "type") = false := by rfl
 have FB := F.excBase_ValueError
 unfold Builtin.«type.__call__»
 dsimp only
 rw [hne, if_neg Bool.false_ne_true]
 refine wpAny_bind (wpAny_mroOf_exc hC ?_)
 rw [if_neg (by simp)]
 refine wpAny_bind (wpAny_madeBy_exc hC ?_)
 refine wpAny_bind (wpAny_pure ?_)
 refine wpAny_bind (wpAny_holding ?_)
 refine wpAny_call (codeAny_call_builtin_code (Code.quiet_builtin _ (by decide +kernel)) ?_)
 refine wpAny_check_new_subT FB OT hC ?_
 refine codeAny_exc_new_subT FB OT hC ?_ hl
 have M := made_two (h := h) (C := C) (rest := rest)
 have hC2 := M.keeps _ _ hC
 have OT2 := OT.keeps M.keeps
 have hN2 := hN.keeps M.keeps
 obtain ⟨t0, he, ht0, htt⟩ := M.there
 dsimp only
 refine wpAny_bind ?_
 unfold isInstance
 refine wpAny_bind ?_
 have L0 : PySem.W.Looks (model prog w) _ (typeOf (.ref (h.objs.size + 1))) (.ref C) := (PySem.W.Looks.ld he).andThen .now
 refine L0.at ?_
 refine wpAny_isSubtype_exc hC2 ?_
 rw [show (Value.ref C :: bm).contains (Value.ref C) = true by simp, if_neg (by decide)]
 refine wpAny_bind (wpAny_holding ?_)
 unfold callSpecial? specialOf
 refine wpAny_bind (wpAny_bind (L0.at ?_))
 refine wpAny_typeLookup_tail hC2 hN2 OT2 FB.mroIs FB.init.lookup ?_
 rw [hi]
 dsimp only
 refine wpAny_holding ?_
 unfold bindSpecial
 have L1 : PySem.W.Looks (model prog w) _ (typeOf (.ref fI)) oI.cls := (PySem.W.Looks.ld (M.keeps _ _ hf)).andThen .now
 refine wpAny_bind (wpAny_bind (L1.at ?_))
 rw [hcf]
 refine wpAny_pure ?_
 refine wpAny_bind ?_
 refine wpAny_mono (hq _ _ M) (fun r s' hr => ?_) fun _ _ z => z
 obtain ⟨rfl, hr⟩ := hr
 exact wpAny_pure (wpAny_pure hr)
end L2
namespace L2
variable {prog : Program} {w : World} {A : Around} {E : Value → Shared → Prop} {h : Heap} {g : Array GenState} {d : Drawn} {t : Nat} {os : OsState} {nm q : Str} {C N : Addr} {bs bm : List Value} {hdct : Bool} {sn : List Str} {sub : List Value} {ab : Bool} {col : Option Bool}
  {dd : Option Addr} {k0 k1 k2 k3 k5 : Option Value}
theorem call_init (OT : OwnTail h veB bm) {mN : Str → Option Value} {rest : List Value} {fI : Addr} {oI : Obj} {Q : Value → Shared → Prop}
  (hC : h.get? C = some (excClassObj nm q C N bs bm hdct sn sub ab col dd k0 k1 k2 k3 k5 "ValueError.__new__")) (hN : h.Ns N mN) (hi : mN "__init__" = some (.ref fI)) (hf : h.get? fI = some oI) (hcf : oI.cls = .type "function")
  (hq : ∀ (h' : Heap) (e : Addr), h.MadeExcOf h' e (.ref C) rest → wpAny (model prog w) (A.under (.builtin "type.__call__" ⟨.ref C :: rest, []⟩)) (call (.ref fI) (.ref e :: rest)) (fun r s' => r = .none ∧ Q (.ref e) s') E ⟨h', g, d, t, os⟩)
  (hl : rest.length ≤ sizeLine) : wpAny (model prog w) A (call (.ref C) rest) Q E ⟨h, g, d, t, os⟩ := by
 refine wpAny_call (codeAny_of_tree ?_)
 show wpAny _ _ (callAny (.ref C) ⟨rest, []⟩) _ _ _
 unfold callAny
 dsimp only
 refine wpAny_bind (wpAny_load hC ?_)
 dsimp only
 unfold callAny.viaDunder
 have L0 : PySem.W.Looks (model prog w) h (typeOf (.ref C)) (.type "type") := (PySem.W.Looks.ld hC).andThen .now
 refine wpAny_bind ?_
 unfold specialOf
 refine wpAny_bind (L0.at ?_)
 rw [tc_lookup]
 refine wpAny_pure ?_
 dsimp only
 rw [tc_bind]
 refine wpAny_bind (wpAny_pure ?_)
 dsimp only
 have hp : callAny.plainCallee (.builtin "type.__call__") = pure true := by rfl
 rw [hp]
 refine wpAny_bind (wpAny_pure ?_)
 rw [if_pos rfl]
 refine wpAny_pure ⟨rfl, ?_⟩
 refine codeAny_call_builtin_code (Code.quiet_builtin _ (by decide +kernel)) ?_
 refine wpAny_check_type_call_sub hC ?_
 refine codeAny_builtin entry_typeCall ?_
 refine type_call_init OT hC hN hi hf hcf (fun h' e M => ?_) hl
 exact wpAny_mono (hq h' e M) (fun r s' hr => ⟨hr.1, hr.2⟩) fun _ _ z => z
end L2
set_option Elab.async false
set_option linter.all false
set_option maxRecDepth 100000
open PySem PySem.Spec PyProof.Rows
namespace L2
noncomputable abbrev veInit : Value := .builtin "ValueError.__init__"
theorem wd_type : typeOf veInit = pure (.type "wrapper_descriptor") := by
 show builtinType "ValueError.__init__" = _
 unfold builtinType
 have h1 : withoutEnding? "ValueError.__init__" "#opaque" = none := by decide +kernel
 have h2 : withoutEnding? "ValueError.__init__" "#data" = none := by decide +kernel
 have h3 : builtinKind "ValueError.__init__" = some .slot := by decide +kernel
 rw [h1, h2, h3]
 rfl
theorem wd_find : fastLookup "wrapper_descriptor" "__get__" = some (some (.builtin "wrapper_descriptor.__get__")) := by decide +kernel
theorem wd_entry : entryFor table "wrapper_descriptor.__get__" = some Builtin.«wrapper_descriptor.__get__» := entryFor_of_tree (by kernel_rfl)
theorem wd_plain : plainId "wrapper_descriptor.__get__" = true := by decide +kernel
theorem wd_args (a b c : Value) : argsOk "wrapper_descriptor.__get__" { pos := [a, b, c] } := by kernel_rfl
theorem wd_kind : builtinKind "wrapper_descriptor.__get__" = some .slot := by decide +kernel
theorem wd_split : splitId "wrapper_descriptor.__get__" = some ("wrapper_descriptor", "__get__") := by decide +kernel
theorem wd_self : isInstance veInit (.type "wrapper_descriptor") = pure true := by
 unfold isInstance
 rw [wd_type]
 kernel_rfl
section
variable {prog : Program} {w : World} {A : Around} {E : Value → Shared → Prop} {h : Heap} {g : Array GenState} {d : Drawn} {t : Nat} {os : OsState} {e C : Addr} {oe : Obj}
theorem wpAny_eq_pure {α : Type} {M : Model} {x : Sem α} {a : α} {Q : α → Shared → Prop} {s : Shared} (h : x = pure a) (q : Q a s) : wpAny M A x Q E s := h ▸ wpAny_pure q
theorem wd_run {Q : Value → Shared → Prop} (hoe : h.get? e = some oe) (hce : oe.cls = .ref C) (hs : PySem.W.Looks (model prog w) h (isSubtype (.ref C) (.type "ValueError")) true)
  (hq : Q (.ref h.objs.size) ⟨h.push { cls := .type "method-wrapper", data := .fields #[veInit, .ref e] }, g, d, t, os⟩) :
  wpAny (model prog w) A (call (.builtin "wrapper_descriptor.__get__") [veInit, .ref e, .ref C]) Q E ⟨h, g, d, t, os⟩ := by
 refine wpAny_call (codeAny_call_builtin wd_plain wd_entry ?_)
 simp only [checkBuiltinCall, wd_kind, wd_split]
 refine wpAny_bind ?_
 rw [wd_self]
 refine wpAny_pure ?_
 rw [if_neg (by decide)]
 refine wpAny_eq_pure (wd_args veInit (.ref e) (.ref C)) ?_
 unfold Builtin.«wrapper_descriptor.__get__»
 refine wpAny_bind (wpAny_pure ?_)
 dsimp only
 have hcut : ".".intercalate ("ValueError.__init__".cutAt '.').dropLast = "ValueError" := by decide +kernel
 have hs' : PySem.W.Looks (model prog w) h (isSubtype oe.cls (Value.type (".".intercalate ("ValueError.__init__".cutAt '.').dropLast))) true := by
  rw [hcut, hce]
  exact hs
 refine fun Γ p hΓ => ⟨oe, hoe, ?_⟩
 refine (wpAny_bind (wpAny_bind (hs'.at ?_)) : wpAny (model prog w) A.in1 ((isSubtype oe.cls (Value.type (".".intercalate ("ValueError.__init__".cutAt '.').dropLast)) >>= _) >>= _) _ _ ⟨h, g, d, t, os⟩) Γ p hΓ
 rw [if_neg (by decide)]
 refine wpAny_pure ?_
 refine wpAny_bind ?_
 show wpAny (model prog w) A.in1 (newObj (.type "method-wrapper") (.fields #[veInit, .ref e])) _ _ _
 refine wpAny_newObj_type ?_ (by show 2 ≤ _; decide)
 exact wpAny_pure hq
end
end L2
namespace L2
section
variable {prog : Program} {w : World} {A : Around} {E : Value → Shared → Prop} {h : Heap} {g : Array GenState} {d : Drawn} {t : Nat} {os : OsState} {e C so : Addr} {oe : Obj} {K : PySem.W.Frag}
 {nm q : Str} {N : Addr} {bs bm : List Value} {hdct : Bool} {sn : List Str} {sub : List Value} {ab : Bool} {col : Option Bool} {dd : Option Addr} {k0 k1 k2 k3 k5 : Option Value} {nid : String}
theorem super_ga {tk : Tok} {Q : PySem.Fin → Shared → Prop} (X : K.In h) (hso : h.get? so = some { cls := .type "super", data := .fields #[.ref C, .ref e, .ref C] }) (hC : h.get? C = some (excClassObj nm q C N bs bm hdct sn sub ab col dd k0 k1 k2 k3 k5 nid))
  (hal : PySem.W.alongIn K "__init__" bm = some (some veInit)) (hop : PySem.W.Looks (model prog w) h (opaqueClassAbove (.ref C)) none) (hoe : h.get? e = some oe) (hce : oe.cls = .ref C) (hs : PySem.W.Looks (model prog w) h (isSubtype (.ref C) (.type "ValueError")) true) (hne : e ≠ C)
  (hq : Q (.done (.ret (.ref h.objs.size))) ⟨h.push { cls := .type "method-wrapper", data := .fields #[veInit, .ref e] }, g, d, t, os⟩) :
  wpAny (model prog w) A (Builtin.«super.__getattribute__» ⟨[.ref so, .str "__init__" tk], []⟩) Q E ⟨h, g, d, t, os⟩ := by
 unfold Builtin.«super.__getattribute__»
 dsimp only [asStr?]
 refine wpAny_bind (wpAny_pure ?_)
 rw [if_neg (by decide)]
 refine wpAny_bind (wpAny_pure ?_)
 dsimp only
 refine wpAny_bind (wpAny_field (x := .ref C) hso rfl rfl ?_)
 refine wpAny_bind (wpAny_field (x := .ref e) hso rfl rfl ?_)
 refine wpAny_bind (wpAny_field (x := .ref C) hso rfl rfl ?_)
 rw [if_neg (by rw [show (Value.ref C == Value.none) = false from rfl]; decide)]
 refine wpAny_bind (ks_wpAny_notOpaque hop ?_)
 rw [if_neg (by rw [show (Value.ref C == Value.type "module") = false from rfl]; decide)]
 refine wpAny_bind (wpAny_mroOf_exc hC ?_)
 have hdr : List.drop 1 (List.dropWhile (fun x => x != Value.ref C) (Value.ref C :: bm)) = bm := by
  rw [List.dropWhile_cons, if_neg (by simp)]
  rfl
 rw [hdr]
 refine wpAny_bind ?_
 refine ks_forIn_along X (fun _ _ => rfl) rfl ?_ hal
 dsimp only
 rw [wd_type]
 refine wpAny_bind (wpAny_pure ?_)
 have L1 : PySem.W.Looks (model prog w) h (typeLookup (.type "wrapper_descriptor") "__get__") (some (.builtin "wrapper_descriptor.__get__")) := PySem.W.looks_findIn X wd_find
 refine wpAny_bind (L1.at ?_)
 dsimp only
 have hb : (Value.ref e == Value.ref C) = false := by
  simpa using hne
 rw [hb, if_neg Bool.false_ne_true]
 refine wpAny_bind (wpAny_holding (wd_run hoe hce hs ?_))
 exact wpAny_bind (wpAny_pure (wpAny_pure (wpAny_pure hq)))
theorem super_meth {pl : Sem Bool} {Q : Value × List Value → Shared → Prop} (X : K.In h) (hso : h.get? so = some { cls := .type "super", data := .fields #[.ref C, .ref e, .ref C] }) (hC : h.get? C = some (excClassObj nm q C N bs bm hdct sn sub ab col dd k0 k1 k2 k3 k5 nid))
  (hal : PySem.W.alongIn K "__init__" bm = some (some veInit)) (hop : PySem.W.Looks (model prog w) h (opaqueClassAbove (.ref C)) none) (hoe : h.get? e = some oe) (hce : oe.cls = .ref C) (hs : PySem.W.Looks (model prog w) h (isSubtype (.ref C) (.type "ValueError")) true) (hne : e ≠ C)
  (hq : Q (.ref h.objs.size, []) ⟨h.push { cls := .type "method-wrapper", data := .fields #[veInit, .ref e] }, g, d, t + 1, os⟩) :
  wpAny (model prog w) A (getMethod (.ref so) "__init__" pl) Q E ⟨h, g, d, t, os⟩ := by
 have L0 : PySem.W.Looks (model prog w) h (typeOf (.ref so)) (.type "super") := (PySem.W.Looks.ld hso).andThen .now
 unfold getMethod specialOf
 refine wpAny_bind (wpAny_bind (L0.at ?_))
 refine wpAny_eq_pure F.ks_slot_super_ga.lookup ?_
 dsimp only
 rw [if_pos F.ks_canon_super_ga]
 unfold getAttr
 refine wpAny_bind (wpAny_bind (wpAny_mkText ?_))
 unfold getAttrBy
 refine wpAny_holding (wpAny_bind (L0.at ?_))
 refine wpAny_bind (wpAny_eq_pure F.ks_slot_super_ga.lookup ?_)
 dsimp only
 rw [if_neg (by decide)]
 unfold getAttrByItsOwn hookBefore
 rw [if_neg (by decide)]
 refine wpAny_bind (wpAny_pure ?_)
 refine wpAny_bind (wpAny_attempt (wpAny_holding ?_))
 unfold callGetattribute
 rw [if_neg (by decide)]
 unfold boundAndCalled
 rw [F.ks_slot_super_ga.bind]
 refine wpAny_bind (wpAny_pure ?_)
 refine wpAny_call_entry F.ks_slot_super_ga ⟨_, hso, rfl⟩ F.ks_entry_super_ga ?_ (F.ks_gaArgs_super _ _)
 refine super_ga X hso hC hal hop hoe hce hs hne ?_
 exact ⟨_, rfl, wpAny_pure (wpAny_pure hq)⟩
end
end L2
namespace L2
section
variable {prog : Program} {w : World} {A : Around} {E : Value → Shared → Prop} {h : Heap} {g : Array GenState} {d : Drawn} {t : Nat} {os : OsState} {e C so : Addr} {oe : Obj} {K : PySem.W.Frag}
theorem printed_ok {e C : Addr} {oe oC : Obj} {cdC : ClassData} {b : Bool} {full short : String} {mc : Manifest.Machinery} {ps : List Manifest.Param} {Q : String → Shared → Prop} (hC : h.get? C = some oC) (hcC : oC.data = .cls cdC) (hoe : h.get? e = some oe) (hce : oe.cls = .ref C)
  (hq : ∀ x, Q x ⟨h, g, d, t, os⟩) : wpAny (model prog w) A (Bind.printed "*" b { machinery := mc, full := full, short := short, receiver := .self, params := ps } (some (.ref e))) Q E ⟨h, g, d, t, os⟩ := by
 have L0 : PySem.W.Looks (model prog w) h (typeOf (.ref e)) (.ref C) := hce ▸ (PySem.W.Looks.ld hoe).andThen .now
 unfold Bind.printed
 rw [if_neg (by decide)]
 dsimp only
 unfold Bind.receiverType
 dsimp only
 rw [if_neg (by decide)]
 refine wpAny_bind (L0.at ?_)
 unfold typeNameWhole classData
 refine wpAny_bind (wpAny_bind (wpAny_bind (wpAny_load hC ?_)))
 rw [hcC]
 exact wpAny_pure (wpAny_pure (wpAny_pure (hq _)))
theorem mw_call {mw e t0 : Addr} {arg : Value} {C : Addr} {oC : Obj} {cdC : ClassData} (hC : h.get? C = some oC) (hcC : oC.data = .cls cdC) {Q : Value → Shared → Prop} (hmw : h.get? mw = some { cls := .type "method-wrapper", data := .fields #[veInit, .ref e] }) (hoe : h.get? e = some { cls := .ref C, data := .fields #[.ref t0, .none, .none, .none, .bool false, .none] })
  (hq : ∀ h', (∀ b o, b ≠ e → h.get? b = some o → h'.get? b = some o) → h'.get? e = some { cls := .ref C, data := .fields #[.ref h.objs.size, .none, .none, .none, .bool false, .none] } → h.objs.size ≤ h'.objs.size → Q .none ⟨h', g, d, t, os⟩) :
  wpAny (model prog w) A (call (.ref mw) [arg]) Q E ⟨h, g, d, t, os⟩ := by
 have FB := F.excBase_ValueError
 refine wpAny_call (codeAny_of_tree ?_)
 show wpAny _ _ (callAny (.ref mw) ⟨[arg], []⟩) _ _ _
 unfold callAny
 dsimp only
 refine wpAny_bind (wpAny_load hmw ?_)
 dsimp only
 rw [if_pos (by decide)]
 show wpAny _ _ (do
  checkBoundCall "ValueError.__init__" ⟨[.ref e, arg], []⟩
  again (.builtin "ValueError.__init__" ⟨[.ref e, arg], []⟩)) _ _ _
 refine wpAny_bind ?_
 unfold checkBoundCall
 rw [FB.initRow]
 dsimp only
 rw [FB.initKind]
 dsimp only
 rw [if_pos (by decide)]
 refine wpAny_mono (?_ : wpAny _ _ _ (fun _ s' => s' = ⟨h, g, d, t, os⟩) _ _) ?k (fun _ _ z => z)
 case k =>
  rintro _ _ rfl
  refine wpAny_pure ⟨Code.quiet_builtin _ (by decide +kernel), ?_⟩
  refine codeAny_builtin FB.initEntry ?_
  unfold Builtin.«BaseException.__init__»
  dsimp only
  rw [if_neg (by decide)]
  refine wpAny_bind (wpAny_newTuple ?_ (by show 1 ≤ _; decide))
  unfold Builtin.BaseException.bexcPut
  have h1 := Heap.get?_push_of_some ({ cls := Value.type "tuple", data := Data.seq #[arg] } : Obj) hoe
  refine wpAny_bind (wpAny_bind (wpAny_field (x := .ref t0) h1 rfl rfl ?_))
  refine wpAny_bind (wpAny_setField h1 rfl (by show 0 < 6; decide) ?_)
  dsimp only
  unfold letGo
  refine wpAny_bind (wpAny_point ?_)
  unfold letGo
  refine wpAny_pure (wpAny_pure (hq _ (fun b o hb q => Heap.get?_update_of_ne _ (Ne.symm hb) (Heap.get?_push_of_some _ q)) ?_ ?_))
  ·rw [Heap.get?_update_self _ h1]
   ·rfl
   ·rfl
  ·rw [Heap.size_update, Heap.size_push]
   exact Nat.le_succ _
 unfold Bind.checkArgs
 dsimp only
 refine wpAny_bind (printed_ok hC hcC hoe rfl fun x => ?_)
 refine wpAny_bind (wpAny_pure ?_)
 exact wpAny_onRaise (wpAny_eq_pure (check_star_args _ _ _ _ _ _) rfl)
end
end L2
namespace L2
section
variable {prog : Program} {w : World} {A : Around} {E : Value → Shared → Prop} {h : Heap} {g : Array GenState} {d : Drawn} {t : Nat} {os : OsState} {env : Env}
theorem cw_const {mw e : Addr} {x : Str} {n : Nat} {q pos : Pos} {Q : Value → Shared → Prop} (hmw : h.get? mw = some { cls := .type "method-wrapper", data := .fields #[veInit, .ref e] })
  (hq : ∀ tk, wpAny (model prog w) A (call (.ref mw) [.str x tk]) Q E ⟨h, g, d, t + 1, os⟩) :
  wpAny (model prog w) A (callWith pos (.ref mw) [] (backTo pos (starEach [.Constant (.str x) n q] env)) []) Q E ⟨h, g, d, t, os⟩ := by
 unfold callWith
 refine wpAny_bind (wpAny_holding ?_)
 show wpAny _ _ (evalArgs (.ref mw) true [(false, eval (.Constant (.str x) n q) env)] []) _ _ _
 refine Calls.evalArgs_plain ?_
 refine Calls.spliced_cons (Calls.Constant_str ?_)
 refine Calls.spliced_nil ?_
 refine wpAny_bind (wpAny_standAt ?_)
 refine wpAny_bind ?_
 unfold keeperOf
 refine wpAny_bind (wpAny_load hmw ?_)
 dsimp only
 refine wpAny_pure ?_
 show wpAny _ _ (do
  let r ← call (.ref mw) [.str x t]
  holding [r] point
  pure r) _ _ _
 refine wpAny_bind (wpAny_mono (hq t) (fun r s' hr => ?_) fun _ _ z => z)
 exact wpAny_bind (wpAny_holding (wpAny_point (wpAny_pure hr)))
end
end L2
namespace L2
section
variable {prog : Program} {w : World} {A : Around} {E : Value → Shared → Prop} {h : Heap} {g : Array GenState} {d : Drawn} {t : Nat} {os : OsState} {env : Env} {K : PySem.W.Frag} {e C : Addr} {vs : Array Value}
 {nm q : Str} {N : Addr} {bs : List Value} {D : Addr} {sn : List Str} {sub : List Value} {ab : Bool} {col : Option Bool} {dd : Option Addr} {k0 k1 k2 k3 k5 : Option Value} {nid : String}
theorem b1 : builtinOwn "ValueError" "__setattr__" = none := by decide +kernel
theorem b2 : builtinOwn "Exception" "__setattr__" = none := by decide +kernel
theorem b3 : builtinOwn "BaseException" "__setattr__" = none := by decide +kernel
theorem b4 : builtinOwn "object" "__setattr__" = some (.builtin "object.__setattr__") := by decide +kernel
theorem b5 : Builtin.ObjectAttr.isObjects "object" (Str.toString "__setattr__") = true := by decide +kernel
theorem refuse_ok {Q : Unit → Shared → Prop} (X : K.In h) (hC : h.get? C = some (excClassObj nm q C N bs (.ref D :: veB) true sn sub ab col dd k0 k1 k2 k3 k5 nid)) (hoe : h.get? e = some { cls := .ref C, data := .fields vs }) (hq : Q () ⟨h, g, d, t, os⟩) :
  wpAny (model prog w) A (Builtin.ObjectAttr.refuseIfOverridden (.ref e) "__setattr__") Q E ⟨h, g, d, t, os⟩ := by
 have L0 : PySem.W.Looks (model prog w) h (typeOf (.ref e)) (.ref C) := (PySem.W.Looks.ld hoe).andThen .now
 unfold Builtin.ObjectAttr.refuseIfOverridden
 refine wpAny_bind (L0.at (wpAny_bind (wpAny_mroOf_exc hC ?_)))
 refine wpAny_bind ?_
 rw [List.forIn_cons]
 refine wpAny_bind (wpAny_pure ?_)
 dsimp only
 rw [List.forIn_cons]
 refine wpAny_bind (wpAny_pure ?_)
 dsimp only
 rw [List.forIn_cons]
 dsimp only
 rw [if_neg (by decide), if_neg (by decide)]
 unfold classOwn
 dsimp only
 rw [b1]
 refine wpAny_bind (wpAny_bind (wpAny_pure ?_))
 rw [if_neg (by decide)]
 refine wpAny_pure ?_
 dsimp only
 rw [List.forIn_cons]
 dsimp only
 rw [if_neg (by decide), if_neg (by decide), b2]
 refine wpAny_bind (wpAny_bind (wpAny_pure ?_))
 rw [if_neg (by decide)]
 refine wpAny_pure ?_
 dsimp only
 rw [List.forIn_cons]
 dsimp only
 rw [if_neg (by decide), if_neg (by decide), b3]
 refine wpAny_bind (wpAny_bind (wpAny_pure ?_))
 rw [if_neg (by decide)]
 refine wpAny_pure ?_
 dsimp only
 rw [List.forIn_cons]
 dsimp only
 rw [if_neg (by decide), if_neg (by decide), b4]
 refine wpAny_bind (wpAny_bind (wpAny_pure ?_))
 rw [if_pos (by rfl), b5, if_neg (by decide)]
 refine wpAny_pure ?_
 dsimp only
 exact wpAny_pure (wpAny_pure hq)
theorem exc_setattr {v : Value} {Q : Unit → Shared → Prop} (X : K.In h) (hC : h.get? C = some (excClassObj nm q C N bs (.ref D :: veB) true sn sub ab col dd k0 k1 k2 k3 k5 nid)) (hoe : h.get? e = some { cls := .ref C, data := .fields vs })
  (hst : PySem.W.findIn K (.ref C) "__setattr__" = some (some (.builtin "object.__setattr__"))) (hat : PySem.W.findIn K (.ref C) "at" = some none) (hob : PySem.W.mroIn K C (.type "object") = some true)
  (hq : ∀ (h' : Heap) (t' : Nat) (dx : Addr), (∀ b o, b ≠ e → h.get? b = some o → h'.get? b = some o) → h.get? dx = none → h'.get? e = some { cls := .ref C, dict := some dx, data := .fields vs } → h'.Ns1 dx (fun x => if x = "at" then some v else none) → Q () ⟨h', g, d, t', os⟩) :
  wpAny (model prog w) A (setAttr (.ref e) "at" v) Q E ⟨h, g, d, t, os⟩ := by
 have L0 : PySem.W.Looks (model prog w) h (typeOf (.ref e)) (.ref C) := (PySem.W.Looks.ld hoe).andThen .now
 have L1 := PySem.W.looks_findIn (M := model prog w) X hst
 have L2 := PySem.W.looks_findIn (M := model prog w) X hat
 have L3 := PySem.W.looks_mroIn (M := model prog w) X hob
 unfold setAttr
 refine wpAny_bind (wpAny_mkText ?_)
 refine wpAny_bind ?_
 unfold callSpecial? specialOf
 refine wpAny_bind (wpAny_bind (L0.at (L1.at ?_)))
 refine wpAny_holding ?_
 rw [F.slot_object_setattr.bind]
 refine wpAny_bind (wpAny_pure ?_)
 refine wpAny_bind (wpAny_call (codeAny_call_builtin F.slot_object_setattr.plain F.entry_object_setattr ?_))
 simp only [checkBuiltinCall, F.bk_object_setattr, F.sp_object_setattr]
 unfold isInstance
 refine wpAny_bind (wpAny_bind (L0.at (L3.at ?_)))
 rw [if_neg (by decide)]
 refine wpAny_eq_pure (F.args_object_setattr_3 _ _ _) ?_
 unfold Builtin.«object.__setattr__»
 dsimp only
 rw [if_neg (by decide)]
 dsimp only [List.cons_append, List.nil_append]
 refine wpAny_bind (refuse_ok X hC hoe ?_)
 refine wpAny_bind (wpAny_pure ?_)
 refine wpAny_bind (L0.at (wpAny_bind (L2.at ?_)))
 refine wpAny_bind (wpAny_pure ?_)
 dsimp only
 unfold Builtin.ObjectAttr.storeInOwnDict
 refine wpAny_bind (wpAny_pure ?_)
 rw [if_neg (by rw [show (Value.ref C == Value.type "module") = false from rfl]; decide)]
 refine wpAny_bind ?_
 show wpAny _ _ (instanceDict e true) _ _ _
 unfold instanceDict classData
 refine wpAny_bind (wpAny_loadPart hoe ?_)
 dsimp only
 refine wpAny_bind (wpAny_bind (wpAny_load hC ?_))
 dsimp only
 refine wpAny_pure ?_
 rw [if_neg (by show ¬((!true) = true); decide), if_neg (by show ¬((!true || !true) = true); decide)]
 refine wpAny_bind (wpAny_alloc ?_)
 have h1 := Heap.get?_push_of_some ({ cls := Value.type "dict", data := Data.dict #[] } : Obj) hoe
 have h2 : (h.push { cls := Value.type "dict", data := Data.dict #[] }).get? h.objs.size = some { cls := Value.type "dict", data := Data.dict #[] } := Heap.get?_push_size _ rfl
 refine wpAny_bind (wpAny_update h1 ?_)
 refine wpAny_pure ?_
 dsimp only
 have nd : h.objs.size ≠ e := Ne.symm (Nat.ne_of_lt (Heap.lt_size hoe))
 unfold Builtin.ObjectAttr.storeInDict
 refine wpAny_bind (wpAny_pure (wpAny_bind ?_))
 have h3 := Heap.get?_update_of_ne (fun o => ({ cls := o.cls, dict := some h.objs.size, data := o.data, slots := o.slots } : Obj)) (Ne.symm nd) h2
 have n0 : ((h.push { cls := Value.type "dict", data := Data.dict #[] }).update e fun o => ({ cls := o.cls, dict := some h.objs.size, data := o.data, slots := o.slots } : Obj)).Ns1 h.objs.size (fun _ => none) := ⟨_, _, _, h3, rfl, fun z hz => by simp at hz, by unfold UniqKeys; simp, fun _ => rfl⟩
 refine wpAny_nsSet1 n0 fun h' hn2 hs2 => ?_
 obtain ⟨oD, esD, epD, hoD, hdD, hcD⟩ := hn2.count (ns := ["at"]) (PySem.Within.cons "at" v (ns := []) (fun y hy => (hy rfl).elim))
 refine wpAny_bind (wpAny_lookBehind hoD (by rw [hdD]; exact pastItsLine_dict (Nat.le_trans hcD (by decide))) ?_)
 refine wpAny_pure ?_
 dsimp only
 refine wpAny_pure ?_
 dsimp only
 refine wpAny_pure ?_
 refine hq h' _ _ (fun b o hb hbo => ?_) (Heap.get?_none_of_le (Nat.le_refl _)) ?_ hn2
 ·exact hs2.2 b (Nat.ne_of_lt (Heap.lt_size hbo)) ▸ (Heap.get?_update_of_ne _ (Ne.symm hb) (Heap.get?_push_of_some _ hbo))
 ·rw [hs2.2 e (Ne.symm nd)]
  rw [Heap.get?_update_self _ h1]
  ·rfl
end
end L2
namespace L2
noncomputable abbrev initParams (p1 p2 : Pos) : Arguments := { posonlyargs := [], args := [{ arg := "self", annotation := none, pos := p1 }, { arg := "at", annotation := none, pos := p2 }], vararg := none, kwonlyargs := [], kw_defaults := [], kwarg := none, defaults := [] }
noncomputable abbrev initScope : Scope := { kind := .function, names := [("self", .local), ("at", .local), ("__class__", .free), ("super", .globalImplicit)], isGenerator := false, isCoroutine := false, more := [] }
noncomputable abbrev initBody (x : Str) (n : Nat) (q0 q1 q2 q3 q4 q5 q6 q7 q8 q9 : Pos) : List Stmt :=
 [.Expr (.Call (.Attribute (.Call (.Name "super" q0) [] [] q1) "__init__" q2) [.Constant (.str x) n q3] [] q4) q5,
  .Assign [.Attribute (.Name "self" q6) "at" q7] (.Name "at" q8) q9]
structure ExcN (prog : Program) (K : PySem.W.Frag) (C fI : Addr) : Prop where
 cls : ∃ (nm q : Str) (N D : Addr) (bs : List Value) (sn : List Str) (sub : List Value) (ab : Bool) (col : Option Bool) (dd : Option Addr) (k0 k1 k2 k3 k5 : Option Value),
  K.lookup C = some (excClassObj nm q C N bs (.ref D :: veB) true sn sub ab col dd k0 k1 k2 k3 k5 "ValueError.__new__") ∧ PySem.W.tailIn K veB (.ref D :: veB) = true ∧ PySem.W.nsOkIn K N = true ∧ PySem.W.nsIn K N "__init__" = some (some (.ref fI)) ∧
  PySem.W.alongIn K "__init__" (.ref D :: veB) = some (some veInit)
 fn : ∃ (qual : Str) (p1 p2 : Pos) (x : Str) (n : Nat) (q0 q1 q2 q3 q4 q5 q6 q7 q8 q9 : Pos) (cc cda : Addr) (od an : Option Addr) (osl ccs cds : Array (Option Value)) (kV doc pm ct ccl cdl : Value) (ccd cdd : Option Addr) (vs : Array Value) (file : Str) (tf : Tok),
  K.lookup fI = some ⟨.type "function", od, .func (PySem.W.fnX "__init__" qual (initParams p1 p2) (initBody x n q0 q1 q2 q3 q4 q5 q6 q7 q8 q9) initScope [("__class__", cc)] .none kV doc pm an (.ref cda) ct), osl⟩ ∧
  PySem.W.codeIn K (.ref cda) qual = true ∧ K.lookup cc = some ⟨ccl, ccd, .cell (some (.ref C)), ccs⟩ ∧ K.lookup cda = some ⟨cdl, cdd, .fields vs, cds⟩ ∧ vs[2]? = some (.str file tf) ∧ (prog.main.file == file) = true ∧ (prog.main.scope.names.lookup ("super" : Str)).isSome = false ∧
  (q2.endLine == q4.line) = true
 opq : PySem.W.nsIn K cStatics "thirdparty.any" = some none
 self : PySem.W.mroIn K C (.ref C) = some true
 sve : PySem.W.mroIn K C (.type "ValueError") = some true
 sob : PySem.W.mroIn K C (.type "object") = some true
 sta : PySem.W.findIn K (.ref C) "__setattr__" = some (some (.builtin "object.__setattr__"))
 nat : PySem.W.findIn K (.ref C) "at" = some none
section
variable {prog : Program} {w : World} {A : Around} {h : Heap} {g : Array GenState} {d : Drawn} {t : Nat} {os : OsState} {R : Result → Shared → Prop} {K : PySem.W.Frag} {C fI e t0 : Addr} {num : Value} {mg : Str → Option Value} {base : Heap}
theorem eval_super {env : Env} {q0 q1 q2 q3 q4 : Pos} {x : Str} {n : Nat} (hp : (q2.endLine == q4.line) = true) : eval (.Call (.Attribute (.Call (.Name "super" q0) [] [] q1) "__init__" q2) [.Constant (.str x) n q3] [] q4) env = (do
   let ov ← attributeBase (.Call (.Name "super" q0) [] [] q1) "__init__" env (eval (.Call (.Name "super" q0) [] [] q1) env)
   standAt q2.atName
   let (f, first) ← holding [ov] (getMethod ov "__init__" (do let b ← importBound (.Call (.Name "super" q0) [] [] q1) env; pure (b.getD true)))
   callWith q4 f first (backTo q4 (starEach [.Constant (.str x) n q3] env)) []) := by
 show (do
   let ov ← attributeBase (.Call (.Name "super" q0) [] [] q1) "__init__" env (eval (.Call (.Name "super" q0) [] [] q1) env)
   standAt q2.atName
   methodCall (.Call (.Name "super" q0) [] [] q1) "__init__" q2 q4 env ov 1 (backTo q4 (starEach [.Constant (.str x) n q3] env)) []) = _
 have hq : methodCallPos true (.Call (.Name "super" q0) [] [] q1) env q2 q4 = pure q4 := by
  unfold methodCallPos
  rw [hp]
  rfl
 have hf : methodCallForm 1 (backTo q4 (starEach [.Constant (.str x) n q3] env)) [] = true := rfl
 unfold methodCall
 rw [hf, hq]
 rfl
variable {nm qn : Str} {N D : Addr} {bs : List Value} {sn : List Str} {sub : List Value} {ab : Bool} {col : Option Bool} {dd : Option Addr} {k0 k1 k2 k3 k5 : Option Value}
theorem s1 {env : Env} {e cc cda : Addr} {E : Value → Shared → Prop} {q0 q1 q2 q3 q4 q5 : Pos} {x : Str} {n : Nat} {body : List Stmt} {Q : Flow → Shared → Prop} {fd : FuncData} {of oc : Obj} {ar : Arg} {vs : Array Value} {file : Str} {tf : Tok}
  {m : Str → Option Value} {t0 : Addr}
  (ksup : env.kindOf "super" = some .globalImplicit) (kcl : env.kindOf "__class__" = some .free) (kfn : env.scope.kind = .function) (kse : env.kindOf "self" = some .local) (hfn : env.func = some fI) (hf : h.get? fI = some of) (hfd : of.data = .func fd) (har : (fd.params.posonlyargs ++ fd.params.args).head? = some ar) (hself : ar.arg = "self")
  (hcode : env.code = .ref cda) (hcda : h.get? cda = some oc) (hoc : oc.data = .fields vs) (hfile : vs[2]? = some (.str file tf)) (hmain : (prog.main.file == file) = true) (hsn : (prog.main.scope.names.lookup ("super" : Str)).isSome = false)
  (hL : h.Ns env.locals m) (hm : m "self" = some (.ref e)) (hcc : env.cells.lookup ("__class__" : Str) = some cc) (hcell : h.IsCell cc (some (.ref C))) (M : Mod K mg h) (hg : env.globals = mainGlobals) (hb : env.builtins = builtinsNs) (hsup : mg "super" = none)
  (X : K.In h) (hC : h.get? C = some (excClassObj nm qn C N bs (.ref D :: veB) true sn sub ab col dd k0 k1 k2 k3 k5 "ValueError.__new__")) (hoe : h.get? e = some { cls := .ref C, data := .fields #[.ref t0, .none, .none, .none, .bool false, .none] })
  (T : ExcN prog K C fI) (hal : PySem.W.alongIn K "__init__" (.ref D :: veB) = some (some veInit)) (hne : e ≠ C)
  (hp : (q2.endLine == q4.line) = true) (hi : interactive env = false) (hsw : swapsWith (.Call (.Attribute (.Call (.Name "super" q0) [] [] q1) "__init__" q2) [.Constant (.str x) n q3] [] q4) none q5.line env = pure false)
  (hQ : ∀ (h' : Heap) (t' : Nat) (t2 : Addr), (∀ b o, b ≠ e → h.get? b = some o → h'.get? b = some o) → h'.get? e = some { cls := .ref C, data := .fields #[.ref t2, .none, .none, .none, .bool false, .none] } → Q .next ⟨h', g, d, t', os⟩) :
  PySem.wpAt (model prog w) A (.func body env) (exec (.Expr (.Call (.Attribute (.Call (.Name "super" q0) [] [] q1) "__init__" q2) [.Constant (.str x) n q3] [] q4) q5) env) Q E ⟨h, g, d, t, os⟩ := by
 have X := X
 refine ks_wpAt_Expr_any ?_ hi hsw
 refine ks_wpAt_MethodCall ?_ (eval_super hp)
 refine ks_wpAt_super_base ksup kcl (by decide) hfn hf hfd har hcode hcda hoc hfile hmain hsn ?_
 obtain ⟨mb, hb1, hb2⟩ := M.blt
 refine PySem.W.ks_loadName_global kfn ksup (Calls.loadGlobal_builtin (by rw [hg]; exact M.glob) hsup (by rw [hb]; exact hb1) (by rw [hb2 _ (by decide)]; rfl) ⟨rfl, ?_⟩)
 refine wpAny_loadName_free kfn kcl hcc hcell ?_
 rw [hself]
 refine wpAny_loadName_local kfn kse hL hm ?_
 refine ks_wpAny_isType_cls hC rfl ⟨rfl, ?_⟩
 refine ks_wpAny_call_super hC rfl hoe rfl (fun c z => nomatch z) (PySem.W.looks_mroIn X T.self) fun h' hso kp => ?_
 have X1 : K.In h' := X.keeps kp
 refine super_meth X1 hso (kp _ _ hC) hal (PySem.W.looks_opaque X1 T.opq) (kp _ _ hoe) rfl (PySem.W.looks_mroIn X1 T.sve) hne ?_
 have h2 : (h'.push { cls := .type "method-wrapper", data := .fields #[veInit, .ref e] }).get? h'.objs.size = some { cls := .type "method-wrapper", data := .fields #[veInit, .ref e] } := Heap.get?_push_size _ rfl
 refine cw_const h2 fun tk => ?_
 refine mw_call (Heap.get?_push_of_some _ (kp _ _ hC)) rfl h2 (Heap.get?_push_of_some _ (kp _ _ hoe)) fun h3 k3 he3 sz => ?_
 exact hQ h3 _ _ (fun b o hb q => k3 b o hb (Heap.get?_push_of_some _ (kp _ _ q))) he3
theorem init_run {num : Value} (T : ExcN prog K C fI) (X : K.In h) (M : Mod K mg h) (hdep : A.depth < recursionLimit) (hsup : mg "super" = none) (hKe : ∀ a o, K.lookup a = some o → a ≠ e)
  (he : h.get? e = some { cls := .ref C, data := .fields #[.ref t0, .none, .none, .none, .bool false, .none] })
  (hR : ∀ (h' : Heap) (t' : Nat) (dx t2 : Addr), (∀ b o, b ≠ e → h.get? b = some o → h'.get? b = some o) → h.get? dx = none → h'.get? e = some { cls := .ref C, dict := some dx, data := .fields #[.ref t2, .none, .none, .none, .bool false, .none] } →
   h'.Ns1 dx (fun x => if x = "at" then some num else none) → R (.ok (.ret .none)) ⟨h', g, d, t', os⟩) :
  codeAny (model prog w) A (.call (.ref fI) ⟨[.ref e, num], []⟩) R ⟨h, g, d, t, os⟩ := by
 obtain ⟨nm, q, N, D, bs, sn, sub, ab, col, dd, k0, k1, k2, k3, k5, lC, tl, nok, nin, hal⟩ := T.cls
 obtain ⟨qual, p1, p2, x, n, q0, q1, q2, q3, q4, q5, q6, q7, q8, q9, cc, cda, od, an, osl, ccs, cds, kV, doc, pm, ct, ccl, cdl, ccd, cdd, vs, file, tf, lf, lcd, lcc, lcda, hfile, hmain, hsn, hp⟩ := T.fn
 have hf := X _ _ lf
 have hC := X _ _ lC
 have hne : e ≠ C := fun z => by
  rw [z, hC] at he
  cases he
 refine ks_codeAny_call_defAt (binds := [("self", .ref e), ("at", num)]) hdep hf rfl M.nolimit (PySem.W.codeRec_of X lcd) rfl (.of_eq rfl) ?_ (fun y hy => ?_) (fun h₀ hL kp => ?_)
 ·intro y hy
  simp only [PySem.W.fnX, initScope, List.mem_cons, List.not_mem_nil, or_false] at hy
  rcases hy with rfl | rfl | rfl | rfl <;> (intro z; cases z)
 ·simp only [List.mem_cons, List.not_mem_nil, or_false] at hy
  rcases hy with rfl | rfl <;> rfl
 ·have X0 : K.In h₀ := X.keeps kp
  have M0 : Mod K mg h₀ := ⟨X0, M.glob.keeps kp, by obtain ⟨mb, z1, z2⟩ := M.blt; exact ⟨mb, z1.keeps kp, z2⟩, M.nolimit.keeps kp⟩
  refine ks_wpAt_execs_cons ?_
  refine s1 (A := A.deeper _) (fI := fI) (cda := cda) (cc := cc) (of := _) (oc := _) (fd := _) (ar := _) (vs := vs) (file := file) (tf := tf) (nm := nm) (qn := q) (N := N) (D := D) (by rfl) (by rfl) rfl (by rfl) rfl (kp _ _ hf) rfl rfl rfl rfl (X0 _ _ lcda) rfl hfile hmain hsn hL rfl rfl ⟨_, X0 _ _ lcc, rfl⟩ M0 rfl rfl hsup X0 (kp _ _ hC) (kp _ _ he) T hal hne hp rfl rfl ?_
  intro h1 t1 t2 kp1 he1
  show PySem.wpAt _ _ _ (execs [_] _) _ _ _
  have X1 : K.In h1 := fun a o la => kp1 _ _ (hKe a o la) (X0 _ _ la)
  have neL : h.objs.size ≠ e := Ne.symm (Nat.ne_of_lt (Heap.lt_size he))
  have hL1 : h1.Ns h.objs.size (fun x => List.lookup x [(("self" : Str), Value.ref e), ("at", num)].reverse) := by
   obtain ⟨o, es, ep, ho, r⟩ := hL
   exact ⟨o, es, ep, kp1 _ _ neL ho, r⟩
  refine ks_wpAt_execs_cons (ks_wpAt_Assign_Attr ?_ rfl)
  refine PySem.wpAt_of_wpAny ?_
  refine wpAny_Name (wpAny_loadName_local rfl (by rfl) hL1 rfl ?_) (by decide)
  refine wpAny_Name (wpAny_loadName_local rfl (by rfl) hL1 rfl ?_) (by decide)
  refine exc_setattr X1 (X1 _ _ lC) he1 T.sta T.nat T.sob fun h2 t3 dx k2 hdx he2 hns => ?_
  show PySem.wpAt _ _ _ (execs [] _) _ _ _
  refine PySem.wpAt_of_wpAny (wpAny_pure ?_)
  refine hR h2 t3 dx t2 (fun b o hb q => k2 b o hb (kp1 b o hb (kp b o q))) ?_ he2 hns
  cases hz : h.get? dx with
  | none => rfl
  | some o =>
   by_cases hb : dx = e
   ·rw [hb, he1] at hdx
    cases hdx
   ·rw [kp1 _ _ hb (kp _ _ hz)] at hdx
    cases hdx
end
end L2
set_option Elab.async false
set_option linter.all false
set_option maxRecDepth 100000
namespace L2
open PySem PySem.Spec PyProof.Rows
theorem HOk.none_of {P : Program} {w : World} {H : Hp} {h : Heap} {a : Addr} (ok : HOk P w H h) (e : h.get? a = none) : H a = none := by
 cases q : H a with
 | none => rfl
 | some u =>
  obtain ⟨o, ho⟩ := (ok a u q).there
  rw [e] at ho
  cases ho
theorem Inv.newly {X : Cx} {pins : List (Addr × Obj)} {σ : St} {H : Hp} {s : Shared} {h' : Heap} {t' : Nat} {a : Addr} {o : HO} (I : Inv X pins σ H s) (k : ∀ b u, s.heap.get? b = some u → h'.get? b = some u) (hn : s.heap.get? a = none)
  (new : ObjOk X.prog X.w (upd H a o) h' a o) : Inv X pins σ (upd H a o) { s with heap := h', toks := t' } := by
 have ne : ∀ b u, s.heap.get? b = some u → b ≠ a := fun b u q z => by
  rw [z, hn] at q
  cases q
 refine Inv.track (I.kept (t' := t') k) (I.hok.none_of hn) (fun b u q hx => ?_) ?_ (fun x c q => ?_) (fun p hp => ?_) new
 ·obtain ⟨o1, q1⟩ := I.base.there b u q hx
  exact ne b o1 q1
 ·obtain ⟨m, ⟨oL, es, ep, hoL, _⟩, _⟩ := I.loc
  exact ne _ _ hoL
 ·obtain ⟨v, oc, hoc, _⟩ := I.cell x c q
  exact ne _ _ hoc
 ·obtain ⟨q1, _⟩ := I.pin p hp
  exact ne _ _ q1
theorem raise_inst {M : Model} {A : Around} {E : Value → Shared → Prop} {env : Env} {nm q : Str} {C N : Addr} {bs bm : List Value} {hdct : Bool} {sn : List Str} {sub : List Value} {ab : Bool} {col : Option Bool} {dd : Option Addr} {k0 k1 k2 k3 k5 : Option Value} {newId : String} {s : Shared} {x : Sem Value} {Q : Flow → Shared → Prop}
  (hb : bm.contains (Value.type "BaseException") = true) (hh : A.handled = none)
  (hx : wpAny M A x (fun v s₁ => ∃ e oe vs, v = .ref e ∧ s₁.heap.get? C = some (excClassObj nm q C N bs bm hdct sn sub ab col dd k0 k1 k2 k3 k5 newId) ∧ s₁.heap.get? e = some oe ∧ oe.cls = .ref C ∧ oe.data = .fields vs ∧ vs[1]? = some .none ∧ E (.ref e) s₁) E s) :
  wpAny M A (raiseStmt env (some x) none) Q E s := by
 unfold raiseStmt
 refine wpAny_bind (wpAny_mono hx (fun v s1 h => ?_) fun _ _ z => z)
 obtain ⟨e, oe, vs, rfl, hC, hoe, hce, hde, hv, hE⟩ := h
 obtain ⟨h, g, d, t, os⟩ := s1
 have L0 : PySem.W.Looks M h (typeOf (.ref e)) (.ref C) := hce ▸ (PySem.W.Looks.ld hoe).andThen .now
 have L1 : PySem.W.Looks M h (typeOf (.ref C)) (.type "type") := (PySem.W.Looks.ld hC).andThen .now
 have nc : ∀ c : ClassData, oe.data ≠ .cls c := fun c z => by rw [hde] at z; cases z
 refine wpAny_bind (wpAny_pure ?_)
 refine wpAny_bind (wpAny_holding ?_)
 unfold excFromValue isExcClass
 refine wpAny_bind (wpAny_bind (ks_wpAny_isType_inst hoe nc ?_))
 rw [if_neg Bool.false_ne_true]
 refine wpAny_pure ?_
 rw [if_neg Bool.false_ne_true]
 unfold isInstance
 refine wpAny_bind (wpAny_bind (L0.at (wpAny_isSubtype_exc hC ?_)))
 rw [show (Value.ref C :: bm).contains (Value.type "BaseException") = true by simp only [List.contains_cons, hb, Bool.or_true], if_pos rfl]
 refine wpAny_pure ?_
 dsimp only
 refine wpAny_bind (ks_wpAny_isType_inst hoe nc ?_)
 rw [if_neg Bool.false_ne_true]
 unfold raisedInstance
 refine wpAny_bind (wpAny_bind (L0.at (wpAny_bind (L1.at ?_))))
 rw [if_pos (by rfl)]
 refine wpAny_pure ?_
 unfold setFlight
 refine wpAny_bind (wpAny_bind (wpAny_field hoe hde hv ?_))
 rw [if_neg (by decide)]
 refine wpAny_pure ?_
 unfold raiseNew
 refine wpAny_bind (wpAny_handled ?_)
 rw [hh]
 exact wpAny_throw hE
noncomputable def MadeOkN (X : Cx) (E : XK) : Prop := ∀ (pins : List (Addr × Obj)) (σ : St) (H : Hp) (s : Shared) (h' : Heap) (t' : Nat) (e dx C t2 : Addr) (v : V) (num : Value), Inv X pins σ H s → (∀ b o, s.heap.get? b = some o → h'.get? b = some o) → s.heap.get? e = none → s.heap.get? dx = none →
 h'.get? e = some { cls := .ref C, dict := some dx, data := .fields #[.ref t2, .none, .none, .none, .bool false, .none] } → h'.Ns1 dx (fun x => if x = "at" then some num else none) → RelV v num → E (.ref C) (some dx) (upd H dx (.xd [("at", v)])) → X.xe (.ref e) { s with heap := h', toks := t' }
section
variable {P : Program} {w : World} {K : PySem.W.Frag} {mg : Str → Option Value} {base : Heap} {N : List Str} {qual : Str} {scope : Scope} {f : Addr} {cd : Value} {A : Around} {outer : List Env} {s : Shared} {H : Hp} {E : XK}
theorem xd_ok {P : Program} {w : World} {H : Hp} {h : Heap} {dx : Addr} {v : V} {num : Value} (hn : h.Ns1 dx (fun x => if x = "at" then some num else none)) (r : RelV v num) : ObjOk P w H h dx (.xd [("at", v)]) := by
 refine ⟨_, hn, fun f => ?_⟩
 by_cases hf : f = "at"
 ·subst hf
  exact r
 ·rw [if_neg hf, List.lookup_cons, show (f == ("at" : Str)) = false from beq_eq_false_iff_ne.mpr hf]
  trivial
theorem madeN : MadeOkN (cxOf (CXE P w) P w K mg base N qual scope f cd A outer s H E) E := by
 intro pins σ H1 s1 h' t' e dx C t2 v num I kp hne hnd he hns rv hE
 have J : Inv (cxOf (CXE P w) P w K mg base N qual scope f cd A outer s H E) pins σ (upd H1 dx (.xd [("at", v)])) { s1 with heap := h', toks := t' } := I.newly kp hnd (xd_ok hns rv)
 have neL : ∀ b o, s.heap.get? b = some o → b ≠ s.heap.objs.size := fun b o q => Nat.ne_of_lt (Heap.lt_size q)
 have old : ∀ b o, s1.heap.get? b = some o → b ≠ e := fun b o q z => by
  rw [z, hne] at q
  cases q
 have hB : ∀ b o, h'.get? b = some o → b ∉ e :: frs (cxOf (CXE P w) P w K mg base N qual scope f cd A outer s H E).stack → (PySem.W.hideAll h' (e :: frs (cxOf (CXE P w) P w K mg base N qual scope f cd A outer s H E).stack)).get? b = some o := fun b o q hb => PySem.W.hideAll_get _ q hb
 have bs : (PySem.W.hideAll h' (e :: frs (cxOf (CXE P w) P w K mg base N qual scope f cd A outer s H E).stack)).StaysIn h' := fun b o q => PySem.W.of_hideAll _ q
 have hBe : (PySem.W.hideAll h' (e :: frs (cxOf (CXE P w) P w K mg base N qual scope f cd A outer s H E).stack)).get? e = none := PySem.W.hideAll_none _ List.mem_cons_self
 have W := kd_leaving.any (wpAny_leaving_firstW (M := model P w) (E := fun _ _ => False) (s := { s1 with heap := h', toks := t' }) (base := PySem.W.hideAll h' (e :: frs (cxOf (CXE P w) P w K mg base N qual scope f cd A outer s H E).stack))
  (Q := fun _ s2 => ∃ h2, s2 = { s1 with heap := h2, toks := t' } ∧ Heap.LeftW (PySem.W.hideAll h' (e :: frs (cxOf (CXE P w) P w K mg base N qual scope f cd A outer s H E).stack)) (cxOf (CXE P w) P w K mg base N qual scope f cd A outer s H E).stack e (.ref C) (.ref t2) h' h2)
  I.ok.frames (PySem.W.funFrames_hide J.stack fun env he' a ha => List.mem_cons_of_mem _ (List.mem_filterMap.mpr ⟨env, he', ha⟩)) rfl he bs hBe rfl rfl rfl fun h2 z => ⟨h2, rfl, z⟩)
 refine wpAny_mono W (fun _ s2 hq => ?_) fun _ _ z => z.1.elim
 obtain ⟨⟨h2, rfl, l1, l2, l3, l4⟩, dk⟩ := hq
 have c1 : ∀ b u, upd H1 dx (.xd [("at", v)]) b = some u → ∃ o, (PySem.W.hideAll h' (e :: frs (cxOf (CXE P w) P w K mg base N qual scope f cd A outer s H E).stack)).get? b = some o := fun b u q => by
  obtain ⟨o, ho⟩ := (J.hok b u q).there
  refine ⟨o, hB b o ho fun z => ?_⟩
  rcases List.mem_cons.mp z with z | z
  ·have q2 := q
   rw [z] at q2
   unfold upd at q2
   split at q2
   ·rename_i hz
    obtain ⟨oD, es, ep, hoD, hdD, _⟩ := hns
    rw [← hz, he] at hoD
    cases hoD
    cases hdD
   ·rw [I.hok.none_of hne] at q2
    cases q2
  ·rw [J.stkFree b z] at q
   cases q
 have c2 : ∀ b o, s1.heap.get? b = some o → b ∉ frs (cxOf (CXE P w) P w K mg base N qual scope f cd A outer s H E).stack → ∃ o', (PySem.W.hideAll h' (e :: frs (cxOf (CXE P w) P w K mg base N qual scope f cd A outer s H E).stack)).get? b = some o' := fun b o q hb =>
  ⟨o, hB b o (kp b o q) fun z => (List.mem_cons.mp z).elim (old b o q) hb⟩
 have fl : Heap.FlyingW (PySem.W.hideAll h' (e :: frs (cxOf (CXE P w) P w K mg base N qual scope f cd A outer s H E).stack)) outer e (.ref C) (.ref t2) h2 := ⟨l1, hBe, l2.2.2, l3⟩
 have c2' : ∀ b o, h'.get? b = some o → b ∉ e :: frs (cxOf (CXE P w) P w K mg base N qual scope f cd A outer s H E).stack → ∃ o', (PySem.W.hideAll h' (e :: frs (cxOf (CXE P w) P w K mg base N qual scope f cd A outer s H E).stack)).get? b = some o' := fun b o q hb => ⟨o, hB b o q hb⟩
 have un1 : Un (frs (cxOf (CXE P w) P w K mg base N qual scope f cd A outer s H E).stack) [] H1 (upd H1 dx (.xd [("at", v)])) s1.heap h' := ⟨fun b o q _ _ _ => kp b o q, fun b o q _ _ _ => ⟨o.slots, kp b o q⟩, fun b o q n _ => by
   rw [upd_ne fun z => by rw [z, hnd] at q; cases q]
   exact n, fun b o q _ => ⟨o, kp b o q⟩, fun b xs q => by
   rw [upd_ne fun z => by rw [z, I.hok.none_of hnd] at q; cases q]
   exact q, fun b o xs q => by
   rw [upd_ne fun z => by rw [z, I.hok.none_of hnd] at q; cases q]
   exact q, fun b ps q => ⟨#[], by
    rw [upd_ne fun z => by rw [z, I.hok.none_of hnd] at q; cases q]
    simpa using q⟩⟩
 refine ⟨e, C, .ref t2, _, _, some dx, rfl, I.os, I.bare, ?_, fly_hok J.hok bs l1 c1, fl, c1, fun b o q hb => ?_, ?_, hE⟩
 ·exact Un.under (L := s.heap.objs.size) I.base (fly_un un1 bs l1 l4 c2 I.hfs) neL
 ·obtain ⟨o1, q1⟩ := I.base.there b o q (fun z => nomatch z)
  exact c2 b o1 q1 fun z => (List.mem_cons.mp z).elim (neL b o q) hb
 ·obtain ⟨o', h3, h4⟩ := dk e _ he
  exact ⟨o', h3, fun dx' z => by cases z; exact h4⟩
end
theorem find_list {name : Str} : ∀ {l : List DictEntry} {e : DictEntry}, List.find? (fun y => y.key.isStr name) l = some e → findBy (fun n v => v.isStr n) l.toArray name = some e.val := by
 intro l e h
 unfold findBy
 simp only [List.find?_toArray, List.findIdx?_toArray]
 first
  | rw [h]; rfl
  | simp [h]
theorem ns_in {K : PySem.W.Frag} {h : Heap} {N : Addr} {m : Str → Option Value} {x : Str} {v : Value} (X : K.In h) (hN : h.Ns N m) (hx : PySem.W.nsIn K N x = some (some v)) : m x = some v := by
 unfold PySem.W.nsIn at hx
 split at hx
 ·rename_i c d es ep sl ho
  obtain ⟨o, es', ep', ho', hd, hr⟩ := hN
  have e := (X _ _ ho).symm.trans ho'
  cases e
  cases hd
  rw [← hr.2 x]
  unfold nsFind
  cases hf : List.find? (fun y => y.key.isStr x) es.toList with
  | none =>
   rw [hf] at hx
   dsimp only at hx
   split at hx <;> cases hx
  | some e =>
   rw [hf] at hx
   cases hx
   exact find_list hf
 ·cases hx
noncomputable def tRaiseN (C : Addr) (E : XK) (t : TA) : TS := fun _ σ H => t σ H fun vs H1 => ∃ v, vs = [v] ∧ ∀ dx, H1 dx = none → E (.ref C) (some dx) (upd H1 dx (.xd [("at", v)]))
section
variable {X : Cx} {E : XK} {C : Addr} {x : Str} {np cpos pos : Pos} {e : Expr} {es : List Expr} {t : TA} {k : Nat}
theorem ps_raiseN {K : PySem.W.Frag} (hK : X.K = K) (hM : MadeOkN X E) (T : ∃ fI, ExcN X.prog K C fI) (hkp : PySem.W.keepIn K (.ref C) = true) (hg : Gl X x) (hm : X.mg x = some (.ref C)) (hsup : X.mg "super" = none) (hr : Room k X.A) (ha : PA X (e :: es) t) (hc : X.calm = true := by rfl) (hdb : (x == ("__debug__" : Str)) = false := by decide)
  (he : starEach (e :: es) X.env = (false, eval e X.env) :: starEach es X.env := by rfl) (hpl : (backTo cpos (starEach es X.env)).any (·.1) = false := by rfl) :
  PS X (.Raise (some (.Call (.Name x np) (e :: es) [] cpos)) none pos) (tRaiseN C E t) := by
 subst hK
 intro pins s σ H D I h
 obtain ⟨fI, T⟩ := T
 obtain ⟨nm, qn, N, D1, bs, sn, sub, ab, col, dd, k0, k1, k2, k3, k5, lC, tl, nok, nin, hal⟩ := T.cls
 have hfI := T.fn
 obtain ⟨qual, p1, p2, x1, n1, q0, q1, q2, q3, q4, q5, q6, q7, q8, q9, cc, cda, od, an, osl, ccs, cds, kV, doc, pm, ct, ccl, cdl, ccd, cdd, vs0, file, tf, lf, _⟩ := hfI
 show wpAny _ _ (do
  standAt pos
  raiseStmt X.env (some (do
   let v ← eval (.Call (.Name x np) (e :: es) [] cpos) X.env
   standAt pos
   pure v)) none) _ _ _
 refine wpAny_bind (wpAny_standAt (raise_inst (C := C) (bm := .ref D1 :: veB) (nm := nm) (q := qn) (N := N) (bs := bs) (hdct := true) (sn := sn) (sub := sub) (ab := ab) (col := col) (dd := dd) (k0 := k0) (k1 := k1) (k2 := k2) (k3 := k3) (k5 := k5) (newId := "ValueError.__new__") (by simp only [List.contains_cons]; rfl) (I.ok.hd hc) ?_))
 refine wpAny_bind (wpAny_Call_Name_kw (ld_glob I hg hm ?_ hdb))
 refine PySem.W.callWith_K (h₀ := X.base) I.ok.mod.kin hkp (thn (ha cpos pins s σ H _ I h) fun us s1 ⟨vs, H1, I1, r, v, ev, q⟩ => ⟨I1.kIn, ?_⟩) he hpl
 subst ev
 obtain ⟨num, rfl, rv⟩ := r.one
 obtain ⟨h1, g, d, t0, os⟩ := s1
 have M1 : Mod X.K X.mg h1 := ⟨I1.kIn, I1.mod.glob.keeps I1.bk, by obtain ⟨mb, z1, z2⟩ := I1.mod.blt; exact ⟨mb, z1.keeps I1.bk, z2⟩, I1.mod.nolimit.keeps I1.bk⟩
 have OT : OwnTail h1 veB (.ref D1 :: veB) := PySem.W.tail_of_in I1.kIn tl
 have hN : h1.Ns N _ := .of_isNs (PySem.W.isNs_of_in I1.kIn nok)
 refine call_init (fI := fI) OT (I1.kIn _ _ lC) hN (ns_in I1.kIn hN nin) (I1.kIn _ _ lf) rfl (fun h' e' M => ?_) (by show 1 ≤ sizeLine; decide)
 refine wpAny_call ?_
 obtain ⟨t1, he', _⟩ := M.there
 have X2 : X.K.In h' := I1.kIn.keeps M.keeps
 have M2 : Mod X.K X.mg h' := ⟨X2, M1.glob.keeps M.keeps, by obtain ⟨mb, z1, z2⟩ := M1.blt; exact ⟨mb, z1.keeps M.keeps, z2⟩, M1.nolimit.keeps M.keeps⟩
 refine init_run (num := num) T X2 M2 (by rw [make_depth]; have := hr.dp; omega) hsup (fun a o la z => ?_) he' fun h2 t2 dx ta kp hdx he2 hns => ?_
 ·have := I1.kIn _ _ la
  rw [z, M.new] at this
  cases this
 refine ⟨rfl, ?_⟩
 refine wpAny_bind (wpAny_standAt (wpAny_pure ⟨e', _, _, rfl, ?_, he2, rfl, rfl, rfl, ?_⟩))
 ·refine kp _ _ (fun z => ?_) (X2 _ _ lC)
  have := I1.kIn _ _ lC
  rw [z, M.new] at this
  cases this
 ·have nd : h1.get? dx = none := by
   cases hz : h1.get? dx with
   | none => rfl
   | some o =>
    rw [M.keeps _ _ hz] at hdx
    cases hdx
  exact hM pins σ H1 ⟨h1, g, d, t0, os⟩ h2 t2 e' dx C ta v num I1 (fun b o q => kp b o (fun z => by rw [z, M.new] at q; cases q) (M.keeps _ _ q)) M.new nd he2 hns rv (q dx (I1.hok.none_of nd))
end
end L2
namespace L2
open PySem PySem.Spec PyProof.Rows
open PySem.W PySem.Builtin PySem.Builtin.ObjectAttr
theorem handed_rel {M : Model} {A : Around} {E : Value → Shared → Prop} {v : V} {u : Value} {Q : Value → Shared → Prop} {s : Shared} (r : RelV v u) (q : Q u s) : wpAny M A (handedOut u) Q E s := by
 cases v <;> first | (obtain ⟨t, rfl⟩ := r; exact wpAny_pure q) | (cases r; exact wpAny_pure q)
section
variable {prog : Program} {w : World} {A : Around} {E : Value → Shared → Prop} {h : Heap} {g : Array GenState} {d : Drawn} {t : Nat} {os : OsState} {a dx : Addr} {o : Obj} {vs : Array Value} {C : Addr} {K : PySem.W.Frag} {m : Str → Option Value} {u : Value} {v : V}
theorem at_entry {tk : Tok} {Q : PySem.Fin → Shared → Prop} (X : K.In h) (T : ExcB K C) (hat : findIn K (.ref C) "at" = some none) (hhd : hasDictIn K C = true) (I : IsExcD a C (some dx) h) (hn : h.Ns dx m) (hm : m "at" = some u) (hq : Q (.done (.ret u)) ⟨h, g, d, t, os⟩) :
  wpAny (model prog w) A (Builtin.«object.__getattribute__» ⟨[.ref a, .str "at" tk], []⟩) Q E ⟨h, g, d, t, os⟩ := by
 have L0 := IsExc.type (M := model prog w) I.e
 have L1 := looks_findIn (M := model prog w) X hat
 obtain ⟨o, vs, ho, hc, hv, hd⟩ := I
 unfold Builtin.«object.__getattribute__»
 refine wpAny_bind (wpAny_pure ?_)
 dsimp only
 refine wpAny_bind (wpAny_pure ?_)
 refine wpAny_bind (L0.at ?_)
 unfold find
 refine wpAny_bind (wpAny_bind (L1.at ?_))
 refine wpAny_bind (wpAny_pure ?_)
 refine wpAny_bind (wpAny_pure ?_)
 dsimp only
 unfold ownThenClass inOwnDict
 obtain ⟨cdD, hcD⟩ : ∃ cd, clsIn K C = some cd ∧ cd.hasDict = true := by
  unfold hasDictIn at hhd
  cases hz : clsIn K C with
  | none => rw [hz] at hhd; cases hhd
  | some cd => rw [hz] at hhd; exact ⟨cd, rfl, hhd⟩
 have L2 := looks_clsIn (M := model prog w) X hcD.1
 dsimp only
 refine wpAny_bind (wpAny_bind (wpAny_bind ?_))
 unfold loadHead
 refine wpAny_loadPart ho ?_
 rw [hv]
 show wpAny _ _ (instanceDict a false) _ _ _
 unfold instanceDict
 refine wpAny_bind (wpAny_loadPart ho ?_)
 rw [hc, hd dx rfl]
 dsimp only
 refine wpAny_bind (L2.at ?_)
 rw [hcD.2, if_neg (by decide)]
 refine wpAny_pure ?_
 show wpAny _ _ (nsGet dx "at") _ _ _
 refine wpAny_nsGet hn ?_
 rw [hm]
 dsimp only
 refine wpAny_bind (wpAny_rule (wpAny_pure ?_))
 dsimp only
 exact wpAny_pure hq
theorem exc_getat {b : Bool} {Q : Value → Shared → Prop} (X : K.In h) (T : ExcB K C) (hat : findIn K (.ref C) "at" = some none) (hhd : hasDictIn K C = true) (I : IsExcD a C (some dx) h) (hn : h.Ns dx m) (hm : m "at" = some u) (r : RelV v u) (hq : ∀ t', Q u ⟨h, g, d, t', os⟩) :
  wpAny (model prog w) A (getAttr (.ref a) "at" b) Q E ⟨h, g, d, t, os⟩ := by
 have L0 := IsExc.type (M := model prog w) I.e
 have L1 := PySem.W.looks_findIn (M := model prog w) X T.1
 have L2 := PySem.W.looks_findIn (M := model prog w) X T.2.1
 have hx2 : (Value.builtin "BaseException.__getattribute__" == Value.builtin "object.__getattribute__") = false := by decide +kernel
 unfold getAttr
 refine wpAny_bind (wpAny_mkText ?_)
 unfold getAttrBy
 refine wpAny_holding (wpAny_bind (L0.at (wpAny_bind (L1.at ?_))))
 dsimp only
 rw [hx2, Bool.and_false, if_neg Bool.false_ne_true]
 unfold getAttrByItsOwn hookBefore
 rw [show onTheHeap (Value.ref C) = true from rfl, if_pos rfl]
 refine wpAny_bind (L2.at (wpAny_bind (wpAny_attempt (wpAny_holding ?_))))
 unfold callGetattribute
 rw [show onTheHeap (Value.builtin "BaseException.__getattribute__") = false from rfl, Bool.and_false, if_neg Bool.false_ne_true]
 have f3 := F.excAttr_ValueError.ga.bind (.ref a)
 unfold boundAndCalled
 rw [f3]
 refine wpAny_bind (wpAny_pure ?_)
 dsimp only
 refine wpAny_call (codeAny_call_builtin F.excAttr_ValueError.ga.plain F.entry_bexc_ga (check_ga_exc X T I.e (at_entry X T hat hhd I hn hm ?_)))
 exact handed_rel r (hq _)
end
noncomputable def tAt (K : PySem.W.Frag) (ta : TE) : TE := fun σ H Q => ta σ H fun x H1 => ∃ a C dx fs v, x = .ref a ∧ H1 a = some (excD a C (some dx)) ∧ ExcB K C ∧ findIn K (.ref C) "at" = some none ∧ hasDictIn K C = true ∧ H1 dx = some (.xd fs) ∧ fs.lookup ("at" : Str) = some v ∧ Q v H1
section
variable {X : Cx} {e : Expr} {pos : Pos} {ta : TE}
theorem pe_at {K : PySem.W.Frag} (hK : X.K = K) (he : PE X e ta) (hb : attributeBase e "at" X.env (eval e X.env) = eval e X.env) : PE X (.Attribute e "at" pos) (tAt K ta) := by
 subst hK
 intro pins s σ H Q I h
 refine attr_of hb (thn (he pins s σ H _ I h) fun u s1 ⟨x, H1, I1, rx, a, C, dx, fs, v, ex, ea, T, hat, hhd, ed, l, q⟩ => ?_)
 subst ex
 obtain rfl : u = Value.ref a := rx
 obtain ⟨hx, _, _⟩ := I1.hok a _ ea
 obtain ⟨mA, hn, hf⟩ := I1.hok dx _ ed
 have hr := hf "at"
 rw [l] at hr
 obtain ⟨h1, g, d, t, os⟩ := s1
 cases hm : mA "at" with
 | none =>
  rw [hm] at hr
  exact hr.elim
 | some u =>
  rw [hm] at hr
  exact exc_getat I1.kIn T hat hhd hx hn.ns hm hr fun t' => ⟨v, H1, I1.tok t', hr, q⟩
end
end L2
namespace L2
open PySem PySem.Spec PyProof.Rows
noncomputable def HMatch (K : PySem.W.Frag) (C : Addr) : List (Addr × Nat × TS) → (Nat → TS → Prop) → Prop
 | [], _ => False
 | (cD, i, th) :: r, F => (PySem.W.exmOne K (.ref C) (.ref cD) = some true ∧ F i th) ∨ (PySem.W.exmOne K (.ref C) (.ref cD) = some false ∧ HMatch K C r F)
noncomputable def tryEN (K : PySem.W.Frag) (ths : List (Addr × Nat × TS)) (D : Ends) (σ : St) : XK := fun cls od H' => ∃ C, cls = .ref C ∧ ExcB K C ∧ HMatch K C ths fun i th => ∀ e, H' e = none → th (goneEnds D i) (σ.set i (some (.ref e))) (upd H' e (excD e C od))
noncomputable def tTryN (K : PySem.W.Frag) (ths : List (Addr × Nat × TS)) (tb : XK → St → TS) : TS := fun D σ H => tb (tryEN K ths D σ) σ D σ H
end L2
set_option Elab.async false
set_option linter.all false
set_option maxRecDepth 100000
namespace L2
open PySem PySem.Spec PyProof.Rows
section
variable {X : Cx} {pos : Pos}
noncomputable def tPar3 (i j k : Nat) (ta : TA) : TS := fun D σ H => ta σ H fun vs H1 => ∃ v w u, vs = [v, w, u] ∧ D.nx (((σ.set i (some v)).set j (some w)).set k (some u)) H1
end
end L2
set_option Elab.async false
set_option linter.all false
set_option maxRecDepth 100000
namespace L2
open PySem PySem.Spec PyProof.Rows
noncomputable def dkOf (o : Option HO) : Option (List (Key × V)) := match o with
 | some (.dK kvs) => some kvs
 | _ => none
theorem dkOf_k (kvs : List (Key × V)) : dkOf (some (.dK kvs)) = some kvs := rfl
noncomputable def tDg (k : Str) (td : TE) : TE := fun σ H Q => td σ H fun x H1 => match x with
 | .ref a => optK (dkOf (H1 a)) fun kvs => optK (valV kvs (Sum.inr k)) fun v => Q v H1
 | _ => False
noncomputable def tDp (k : Str) (td tv : TE) : TS := fun D σ H => tv σ H fun v H1 => td σ H1 fun x H2 => match x with
 | .ref a => optK (dkOf (H2 a)) fun kvs => kvs.length < 1000000 ∧ D.nx σ (upd H2 a (.dK (putK kvs (Sum.inr k) v)))
 | _ => False
theorem FnB.no {P : Program} {w : World} {K : PySem.W.Frag} {mg : Str → Option Value} {base : Heap} {CX : CXT} {x : Str} {ps : List Str} {f : Addr} {fd : FuncData} (m : mg x = some (.ref f)) (kp : PySem.W.keepIn K (.ref f) = true) (b : Binds K fd ps []) : FnB P w K mg base CX 0 x ps (fun _ _ _ _ => False) :=
 ⟨f, fd, ⟨fun _ _ _ _ h => h.elim, fun _ _ _ _ _ _ _ _ _ _ _ _ _ h => h.elim⟩, m, kp, b⟩
end L2
set_option Elab.async false
set_option linter.all false
set_option maxRecDepth 100000
namespace L2
open PySem PySem.Spec PyProof.Rows
theorem next_raw {prog : Program} {w : World} {A : Around} {E : Value → Shared → Prop} {s : Shared} {it d : Addr} {i ep : Nat} {o : Obj} {es : Array DictEntry} {e : DictEntry} {Q : Option Value → Shared → Prop}
  (hI : s.heap.IsKeyIter it d i es.size ep) (ho : s.heap.get? d = some o) (hd : o.data = .dict es ep) (he : es[i]? = some e)
  (h : ∀ h' : Heap, h'.IsKeyIter it d (i + 1) es.size ep → Heap.SameBut it s.heap h' → Q (some e.key) { s with heap := h' }) :
  wpAny (model prog w) A (pyNext (.ref it)) Q E s := by
 unfold pyNext
 refine wpAny_bind (wpAny_attempt (wpAny_callSpecial?_slot hI.typeIs F.slot_dict_keyiterator_next (wpAny_call_entry F.slot_dict_keyiterator_next hI.typeIs F.entry_dict_keyiterator_next ?_ (F.args_dict_keyiterator_next_1 _))))
 have hI' := hI
 obtain ⟨oi, hoi, hcls, hdata⟩ := hI
 show wpAny (model prog w) A.in1 (Builtin.Dict_items.slot0 "__next__" { pos := [.ref it] } >>= fun it' => _) _ _ _
 refine wpAny_bind ?_
 show wpAny (model prog w) A.in1 (pure (Value.ref it)) _ _ _
 refine wpAny_pure ?_
 refine wpAny_bind ?_
 refine wpAny_bind ?_
 refine wpAny_bind ?_
 refine wpAny_typeNameOfWhole_keyiter hI'.typeIs (wpAny_pure ?_)
 have hown : Builtin.Dict_items.ownsTuple "dict_keyiterator" = false := by decide
 rw [hown, if_neg (by decide)]
 refine wpAny_bind (wpAny_fieldsOf hoi hdata ?_)
 show wpAny (model prog w) A.in1 (if (Value.ref d == Value.none) = true then _ else _) _ _ _
 rw [if_neg (show ¬ (Value.ref d == Value.none) = true from fun z => nomatch (show false = true from z))]
 refine wpAny_bind ?_
 show wpAny (model prog w) A.in1 (pure d) _ _ _
 refine wpAny_pure (wpAny_bind (wpAny_dictEntries ho hd ?_))
 dsimp only
 rw [if_neg (by simp)]
 refine wpAny_bind ?_
 show wpAny (model prog w) A.in1 (pure d) _ _ _
 refine wpAny_pure (wpAny_bind (wpAny_dictEpoch ho hd ?_))
 rw [if_neg (by simp)]
 refine wpAny_pure ?_
 dsimp only
 rw [if_neg (by omega), Int.toNat_natCast, he]
 dsimp only
 refine wpAny_bind ?_
 refine wpAny_bind ?_
 refine wpAny_typeNameOfWhole_keyiter hI'.typeIs (wpAny_pure ?_)
 rw [hown, if_neg (by decide)]
 refine wpAny_bind (wpAny_isOneOf_keyiter hI'.typeIs ?_)
 refine wpAny_bind (wpAny_setField hoi hdata (show 0 + 1 < 4 by decide) ?_)
 refine wpAny_bind (wpAny_holding ?_)
 have hS := Heap.SameBut.update s.heap it (Obj.mapFields fun x => x.setIfInBounds (0 + 1) (rawInt ((i : Int) + 1)))
 have hK : (s.heap.update it (Obj.mapFields fun x => x.setIfInBounds (0 + 1) (rawInt ((i : Int) + 1)))).IsKeyIter it d (i + 1) es.size ep := by
  refine ⟨_, Heap.get?_update_self _ hoi ?_, ?_, ?_⟩
  ·obtain ⟨c, dd, dt, sl⟩ := oi
   cases hdata
   cases hcls
   rfl
  ·obtain ⟨c, dd, dt, sl⟩ := oi
   cases hdata
   exact hcls
  ·obtain ⟨c, dd, dt, sl⟩ := oi
   cases hdata
   rfl
 show wpAny (model prog w) A.in1 (Builtin.Dict_items.isOneOf (Value.ref it) ["dict_keyiterator", "dict_reversekeyiterator"] >>= fun b => _) _ _ { s with heap := s.heap.update it (Obj.mapFields fun x => x.setIfInBounds (0 + 1) (rawInt ((i : Int) + 1))) }
 refine wpAny_bind (wpAny_isOneOf_keyiter hK.typeIs ?_)
 show wpAny (model prog w) A.in1 (pure e.key) _ _ _
 exact wpAny_pure (wpAny_pure ⟨e.key, rfl, wpAny_pure (h _ hK hS)⟩)
theorem end_raw {prog : Program} {w : World} {A : Around} {E : Value → Shared → Prop} {s : Shared} {it d : Addr} {i ep : Nat} {o : Obj} {es : Array DictEntry} {Q : Option Value → Shared → Prop}
  (hh : A.handled = none) (hI : s.heap.IsKeyIter it d i es.size ep) (ho : s.heap.get? d = some o) (hd : o.data = .dict es ep) (he : es[i]? = none)
  (h : ∀ h' : Heap, Heap.ExtBut it s.heap h' → Q none { s with heap := h' }) :
  wpAny (model prog w) A (pyNext (.ref it)) Q E s := by
 unfold pyNext
 refine wpAny_bind (wpAny_attempt (wpAny_callSpecial?_slot hI.typeIs F.slot_dict_keyiterator_next (wpAny_call_entry F.slot_dict_keyiterator_next hI.typeIs F.entry_dict_keyiterator_next ?_ (F.args_dict_keyiterator_next_1 _))))
 have hI' := hI
 obtain ⟨oi, hoi, hcls, hdata⟩ := hI
 show wpAny (model prog w) A.in1 (Builtin.Dict_items.slot0 "__next__" { pos := [.ref it] } >>= fun it' => _) _ _ _
 refine wpAny_bind ?_
 show wpAny (model prog w) A.in1 (pure (Value.ref it)) _ _ _
 refine wpAny_pure ?_
 refine wpAny_bind ?_
 refine wpAny_bind ?_
 refine wpAny_bind ?_
 refine wpAny_typeNameOfWhole_keyiter hI'.typeIs (wpAny_pure ?_)
 have hown : Builtin.Dict_items.ownsTuple "dict_keyiterator" = false := by decide
 rw [hown, if_neg (by decide)]
 refine wpAny_bind (wpAny_fieldsOf hoi hdata ?_)
 show wpAny (model prog w) A.in1 (if (Value.ref d == Value.none) = true then _ else _) _ _ _
 rw [if_neg (show ¬ (Value.ref d == Value.none) = true from fun z => nomatch (show false = true from z))]
 refine wpAny_bind ?_
 show wpAny (model prog w) A.in1 (pure d) _ _ _
 refine wpAny_pure (wpAny_bind (wpAny_dictEntries ho hd ?_))
 dsimp only
 rw [if_neg (by simp)]
 refine wpAny_bind ?_
 show wpAny (model prog w) A.in1 (pure d) _ _ _
 refine wpAny_pure (wpAny_bind (wpAny_dictEpoch ho hd ?_))
 rw [if_neg (by simp)]
 refine wpAny_pure ?_
 dsimp only
 rw [if_neg (by omega), Int.toNat_natCast, he]
 dsimp only
 refine wpAny_bind ?_
 refine wpAny_bind ?_
 refine wpAny_typeNameOfWhole_keyiter hI'.typeIs (wpAny_pure ?_)
 rw [hown, if_neg (by decide)]
 refine wpAny_bind (wpAny_setField hoi hdata (show 0 < 4 by decide) ?_)
 refine wpAny_bind ?_
 unfold newExc
 refine wpAny_bind (wpAny_newTuple ?_ (Nat.zero_le _))
 refine wpAny_bind ?_
 show wpAny (model prog w) A.in1 (do let has ← pure ((Manifest.find? "StopIteration").elim false fun t => t.mro.contains "StopIteration" || t.mro.contains "SystemExit"); pure (if has = true then ([] : List Value).headD Value.none else Value.none)) _ _ _
 refine wpAny_bind (wpAny_pure (wpAny_pure ?_))
 refine wpAny_newObj_type ?_ (show 6 ≤ sizeLine + 2 by decide)
 refine wpAny_raiseNew_none hh ?_
 refine wpAny_bind (wpAny_isInstance (T := "StopIteration") (b := true) ⟨_, Heap.get?_push_size _ rfl, rfl⟩ rfl ?_)
 rw [if_pos rfl]
 refine wpAny_pure (h _ fun b o' hb q => ?_)
 refine Heap.get?_push_of_some _ (Heap.get?_push_of_some _ ?_)
 rw [(Heap.SameBut.update s.heap it _).2 b hb]
 exact q
theorem iter_raw {prog : Program} {w : World} {A : Around} {E : Value → Shared → Prop} {s : Shared} {d : Addr} {ep : Nat} {o : Obj} {es : Array DictEntry} {Q : Value → Shared → Prop}
  (hs : (d == sysModules) = false) (ho : s.heap.get? d = some o) (hc : o.ExactDict) (hd : o.data = .dict es ep)
  (h : Q (.ref s.heap.objs.size) { s with heap := s.heap.push { cls := .type "dict_keyiterator", data := .fields #[.ref d, .int 0 0, .int es.size 0, .int ep 0] } }) :
  wpAny (model prog w) A (pyIter (.ref d)) Q E s := by
 have ht : s.TypeIs (.ref d) "dict" := ⟨o, ho, hc.1⟩
 refine wpAny_pyIter_slot ht F.slot_dict_iter (wpAny_call_entry F.slot_dict_iter ht F.entry_dict_iter ?_ (F.args_dict_iter_1 _))
 refine wpAny_bind ?_
 unfold Builtin.Dict.dictSlotNone
 refine wpAny_bind ?_
 unfold Builtin.Dict.notOrdered
 rw [if_pos (by decide)]
 refine wpAny_bind (wpAny_typeOf ht ?_)
 rw [if_neg (by decide)]
 refine wpAny_pure ?_
 show wpAny (model prog w) A.in1 (do let __do_lift ← (pure (Value.ref d, []) : Sem (Value × List Value)); pure __do_lift.fst) _ _ _
 refine wpAny_bind (wpAny_pure (wpAny_pure ?_))
 refine wpAny_bind ?_
 show wpAny (model prog w) A.in1 (pure d) _ _ _
 refine wpAny_pure (wpAny_bind ?_)
 unfold Builtin.Dict.showsAll
 rw [if_neg (by rw [hs]; decide)]
 refine wpAny_pure (wpAny_bind (wpAny_dictEntries ho hd (wpAny_bind (wpAny_dictEpoch ho hd (wpAny_bind ?_)))))
 refine wpAny_newObj_type (T := "dict_keyiterator") ?_ (show 4 ≤ sizeLine + 2 by decide)
 exact wpAny_pure ⟨_, rfl, "dict_keyiterator", _, ⟨_, Heap.get?_push_size _ rfl, rfl⟩, F.slot_dict_keyiterator_next.lookup, h⟩
theorem walks_raw {prog : Program} {w : World} {A : Around} (hh : A.handled = none) (I d : Addr) (hne : d ≠ I) (o : Obj) (es : Array DictEntry) (ep : Nat) (hd : o.data = .dict es ep) :
  Walks prog w A I [I, d] [I] es.size (fun i v => ∃ e, es[i]? = some e ∧ v = e.key) fun i h => h.IsKeyIter I d i es.size ep ∧ h.get? d = some o where
 sub := fun b hb => by simp only [List.mem_cons, List.not_mem_nil, or_false] at hb ⊢; exact .inl hb
 frame := fun i h h' ⟨h1, h2⟩ k => ⟨h1.at fun o q => k I (by simp) o q, k d (by simp) o h2⟩
 item := fun i s Q E hi ⟨h1, h2⟩ k => by
  obtain ⟨e, he⟩ : ∃ e, es[i]? = some e := ⟨es[i], Array.getElem?_eq_getElem hi⟩
  refine next_raw h1 h2 hd he fun h' k1 k2 => k e.key h' s.toks ⟨e, he, rfl⟩ ⟨k1, ?_⟩ fun b ob hb q => ?_
  ·rw [k2.2 d hne]; exact h2
  ·rw [k2.2 b (by simpa using hb)]; exact q
 done := fun s Q E ⟨h1, h2⟩ k => end_raw hh h1 h2 hd (by simp) fun h' k2 => k h' s.toks fun b ob hb q => k2 b ob (by simpa using hb) q
 self := fun i s Q E ⟨h1, h2⟩ k => wpAny_pyIter_keyiter h1 k
theorem src_raw {prog : Program} {w : World} {d : Addr} {o : Obj} {es : Array DictEntry} {ep : Nat} (hs : (d == sysModules) = false) (hc : o.ExactDict) (hd : o.data = .dict es ep) :
  PySem.W.KdlSrc prog w "dict" d d es.size (fun i v => ∃ e, es[i]? = some e ∧ v = e.key) fun h => h.get? d = some o where
 type := fun s h => ⟨o, h, hc.1⟩
 there := fun h k => ⟨Heap.lt_size k, Heap.lt_size k⟩
 keep := fun h h' k q => q d (.inl rfl) o k
 notList := by decide
 notTuple := by decide
 hint := fun A E s Q k q => PySem.W.kdl_hint_dict ⟨o, k, hc.1⟩ q
 iter := fun A s hh k => ⟨{ cls := .type "dict_keyiterator", data := .fields #[.ref d, .int 0 0, .int es.size 0, .int ep 0] }, _, fun E Q q => iter_raw hs k hc hd q, walks_raw hh s.heap.objs.size d (Nat.ne_of_lt (Heap.lt_size k)) o es ep hd, ⟨_, Heap.get?_push_size _ rfl, rfl, rfl⟩, Heap.get?_push_of_some _ k⟩
section
variable {X : Cx} {pos pos' : Pos}
theorem kt_at {H : Hp} : ∀ {kvs : List (List Key × V)} {xs : List (List Key × Addr × Value)}, KT H kvs xs → xs.length = kvs.length ∧ ∀ (i : Nat) (a : List Key × V) (b : List Key × Addr × Value), kvs[i]? = some a → xs[i]? = some b → H b.2.1 = some (.tup (a.1.map kV)) := by
 intro kvs xs r
 induction r with
 | nil => exact ⟨rfl, fun i a b h => by simp at h⟩
 | @cons p q ps qs h t ih =>
  refine ⟨by simp [ih.1], fun i a b h1 h2 => ?_⟩
  cases i with
  | zero => cases h1; cases h2; exact h.2.1
  | succ i => exact ih.2 i a b h1 h2
theorem refs_vals : ∀ ks : List (List Key × Addr × Value), Vals ((ks.map fun x => x.2.1).map V.ref) (ks.map fun x => Value.ref x.2.1)
 | [] => .nil
 | _ :: ks => .cons rfl (refs_vals ks)
theorem call_listD (hcalm : X.calm = true) : CallR X (.type "list") (fun vs H Q => ∃ d kvs, vs = [.ref d] ∧ H d = some (.dT kvs) ∧ ∀ (l : Addr) (as : List Addr), H l = none → as.length = kvs.length → (∀ (i : Nat) (a : Addr) (k : List Key × V), as[i]? = some a → kvs[i]? = some k → H a = some (.tup (k.1.map kV))) → Q (.ref l) (upd H l (.lst (as.map V.ref)))) := by
 intro pins s σ H xs us Q I r h
 obtain ⟨d, kvs, rfl, hd, q⟩ := h
 obtain ⟨u, rfl, rx⟩ := vals1 r
 cases rx
 obtain ⟨hz, hs, ks, kt, o, es, ep, ho, hc, hdat, hes, _, _⟩ := dt_of I.hok hd
 obtain ⟨hl, hk⟩ := kt_at kt
 have hsz : es.size = kvs.length := by
  have := congrArg List.length hes
  rw [List.length_map, hl, Array.length_toList] at this
  exact this
 refine PySem.W.kdl_call (src_raw hs hc hdat) (I.ok.hd hcalm) ho (by rw [hsz]; exact hz) fun h' tk acc c kp e hi => ?_
 have hacc : acc.toList = (ks.map fun x => Value.ref x.2.1) := by
  apply List.ext_getElem?
  intro j
  rw [Array.getElem?_toList, List.getElem?_map]
  by_cases hj : j < acc.size
  ·have e1 := Array.getElem?_eq_getElem hj
   obtain ⟨en, he, hv⟩ := hi.2 j _ e1
   rw [e1, hv]
   rw [← Array.getElem?_toList, hes, List.getElem?_map] at he
   cases hx : ks[j]? with
   | none => rw [hx] at he; cases he
   | some x =>
    rw [hx] at he
    cases he
    rfl
  ·rw [Array.getElem?_eq_none (by omega), List.getElem?_eq_none (by rw [hl, ← hsz, ← hi.1]; omega)]
   rfl
 have hv : Vals ((ks.map fun x => x.2.1).map V.ref) acc.toList := by
  rw [hacc]
  exact refs_vals _
 refine ⟨.ref s.heap.objs.size, _, I.laid (a := s.heap.objs.size) (o := .lst ((ks.map fun x => x.2.1).map V.ref)) (t' := tk) kp (Nat.le_refl _) ⟨?_, acc.toList, c, hv, ?_⟩, rfl, q _ _ (I.hok.fresh (Nat.le_refl _)) ?_ ?_⟩
 ·rw [List.length_map, List.length_map, hl]; exact hz
 ·rw [e]
 ·rw [List.length_map, hl]
 ·intro i a k h1 h2
  rw [List.getElem?_map] at h1
  cases hx : ks[i]? with
  | none => rw [hx] at h1; cases h1
  | some x =>
   rw [hx] at h1
   cases h1
   exact hk i k x h2 hx
theorem best_lt (val : Nat → Int) : ∀ k, argBest (fun i j => decide (val i < val j)) k ≤ k ∧ ∀ j, j ≤ k → val (argBest (fun i j => decide (val i < val j)) k) ≤ val j := by
 intro k
 induction k with
 | zero =>
  rw [argBest.eq_1]
  exact ⟨Nat.le_refl _, fun j hj => by obtain rfl : j = 0 := (by omega); exact Int.le_refl _⟩
 | succ k ih =>
  rw [show k + 1 = k.succ from rfl, argBest.eq_2]
  by_cases h : val (k + 1) < val (argBest (fun i j => decide (val i < val j)) k)
  ·rw [if_pos (decide_eq_true h)]
   refine ⟨Nat.le_refl _, fun j hj => ?_⟩
   by_cases e : j = k + 1
   ·subst e; exact Int.le_refl _
   ·have := ih.2 j (by omega)
    omega
  ·rw [if_neg (by rw [decide_eq_true_eq]; exact h)]
   refine ⟨by have := ih.1; omega, fun j hj => ?_⟩
   by_cases e : j = k + 1
   ·subst e; omega
   ·exact ih.2 j (by omega)
theorem best_gt (val : Nat → Int) : ∀ k, argBest (fun i j => decide (val i > val j)) k ≤ k ∧ ∀ j, j ≤ k → val j ≤ val (argBest (fun i j => decide (val i > val j)) k) := by
 intro k
 induction k with
 | zero =>
  rw [argBest.eq_1]
  exact ⟨Nat.le_refl _, fun j hj => by obtain rfl : j = 0 := (by omega); exact Int.le_refl _⟩
 | succ k ih =>
  rw [show k + 1 = k.succ from rfl, argBest.eq_2]
  by_cases h : val (k + 1) > val (argBest (fun i j => decide (val i > val j)) k)
  ·rw [if_pos (decide_eq_true h)]
   refine ⟨Nat.le_refl _, fun j hj => ?_⟩
   by_cases e : j = k + 1
   ·subst e; exact Int.le_refl _
   ·have := ih.2 j (by omega)
    omega
  ·rw [if_neg (by rw [decide_eq_true_eq]; exact h)]
   refine ⟨by have := ih.1; omega, fun j hj => ?_⟩
   by_cases e : j = k + 1
   ·subst e; omega
   ·exact ih.2 j (by omega)
noncomputable def rBestL (K : PySem.W.Frag) (ok : Int → Int → Prop) : List V → Hp → VK → Prop := fun vs H Q => ∃ (l : Addr) (ns : List Int), vs = [.ref l] ∧ SqL K H l (ns.map V.int) ∧ 0 < ns.length ∧ ∀ M, M ∈ ns → (∀ a ∈ ns, ok M a) → Q (.int M) H
theorem val_at {ns : List Int} : ∀ {its : List Value}, Vals (ns.map V.int) its → its.length = ns.length ∧ ∀ (i : Nat) (v : Value), its[i]? = some v → ∃ t, v = Value.int (ns.getD i 0) t := by
 induction ns with
 | nil => intro its r; cases r; exact ⟨rfl, fun i v h => by simp at h⟩
 | cons n ns ih =>
  intro its r
  cases r with
  | cons p q =>
   obtain ⟨h1, h2⟩ := ih q
   refine ⟨by simp [h1], fun i v h => ?_⟩
   cases i with
   | zero => cases h; exact p
   | succ i => exact h2 i v h
theorem mem_of_getD {ns : List Int} {i : Nat} (h : i < ns.length) : ns.getD i 0 ∈ ns := by
 rw [List.getD_eq_getElem?_getD, List.getElem?_eq_getElem h]
 exact List.getElem_mem h
theorem call_minL {K : PySem.W.Frag} (hK : X.K = K) (hcalm : X.calm = true) : CallR X (.builtin "min") (rBestL K fun M a => M ≤ a) := by
 subst hK
 intro pins s σ H xs us Q I r h
 obtain ⟨l, ns, rfl, hl, h0, q⟩ := h
 obtain ⟨u, rfl, rx⟩ := vals1 r
 cases rx
 obtain ⟨its, r', pl, hz⟩ := I.list hl
 obtain ⟨hlen, hat⟩ := val_at r'
 have hIs := pl.isList
 refine call_min_walk (wpAny_pyIter_list hIs ?_)
 obtain ⟨o, ho, hcl, hdt⟩ := hIs
 have W := Walks.list (prog := X.prog) (w := X.w) (A := X.A.in1) (show X.A.in1.handled = none from I.ok.hd hcalm) s.heap.objs.size l (Nat.ne_of_lt (Heap.lt_size ho)) its.toArray
 have S0 : (s.heap.push { cls := .type "list_iterator", data := .fields #[.ref l, .int 0 0] }).IsListIter s.heap.objs.size l 0 ∧ (s.heap.push { cls := .type "list_iterator", data := .fields #[.ref l, .int 0 0] }).IsList l its.toArray := ⟨⟨_, Heap.get?_push_size _ rfl, rfl, rfl⟩, ⟨o, Heap.get?_push_of_some _ ho, hcl, hdt⟩⟩
 refine ⟨s.heap.objs.size, [s.heap.objs.size, l], [s.heap.objs.size], its.toArray.size, (fun i v => its.toArray[i]? = some v), _, fun i j => decide (ns.getD i 0 < ns.getD j 0), rfl, W, S0, ?_, ?_, CmpOf.ints_lt (fun i => ns.getD i 0) (fun i v hv => hat i v (by simpa using hv)), ?_⟩
 ·intro b hb
  simp only [List.mem_cons, List.not_mem_nil, or_false] at hb
  rw [Heap.size_push]
  rcases hb with rfl | rfl
  ·exact Nat.lt_succ_self _
  ·exact Nat.lt_succ_of_lt (Heap.lt_size ho)
 ·simp only [List.size_toArray]; omega
 ·intro v h' tk hv kp
  obtain ⟨hb1, hb2⟩ := best_lt (fun i => ns.getD i 0) (its.toArray.size - 1)
  simp only [List.size_toArray] at hb1 hb2 hv
  rw [List.getElem?_toArray] at hv
  obtain ⟨t, rfl⟩ := hat _ v hv
  refine ⟨.int _, H, I.kept (t' := tk) (fun b ob hq => kp b ob ?_ (Heap.get?_push_of_some _ hq)), ⟨t, rfl⟩, q _ (mem_of_getD (by omega)) fun a ha => ?_⟩
  ·simp only [List.mem_cons, List.not_mem_nil, or_false]
   exact Nat.ne_of_lt (Heap.lt_size hq)
  ·obtain ⟨j, hj⟩ := List.getElem?_of_mem ha
   have lj := (List.getElem?_eq_some_iff.mp hj).1
   have := hb2 j (by omega)
   rw [show ns.getD j 0 = a by rw [List.getD_eq_getElem?_getD, hj]; rfl] at this
   exact this
theorem call_maxL {K : PySem.W.Frag} (hK : X.K = K) (hcalm : X.calm = true) : CallR X (.builtin "max") (rBestL K fun M a => a ≤ M) := by
 subst hK
 intro pins s σ H xs us Q I r h
 obtain ⟨l, ns, rfl, hl, h0, q⟩ := h
 obtain ⟨u, rfl, rx⟩ := vals1 r
 cases rx
 obtain ⟨its, r', pl, hz⟩ := I.list hl
 obtain ⟨hlen, hat⟩ := val_at r'
 have hIs := pl.isList
 refine call_max_walk (wpAny_pyIter_list hIs ?_)
 obtain ⟨o, ho, hcl, hdt⟩ := hIs
 have W := Walks.list (prog := X.prog) (w := X.w) (A := X.A.in1) (show X.A.in1.handled = none from I.ok.hd hcalm) s.heap.objs.size l (Nat.ne_of_lt (Heap.lt_size ho)) its.toArray
 have S0 : (s.heap.push { cls := .type "list_iterator", data := .fields #[.ref l, .int 0 0] }).IsListIter s.heap.objs.size l 0 ∧ (s.heap.push { cls := .type "list_iterator", data := .fields #[.ref l, .int 0 0] }).IsList l its.toArray := ⟨⟨_, Heap.get?_push_size _ rfl, rfl, rfl⟩, ⟨o, Heap.get?_push_of_some _ ho, hcl, hdt⟩⟩
 refine ⟨s.heap.objs.size, [s.heap.objs.size, l], [s.heap.objs.size], its.toArray.size, (fun i v => its.toArray[i]? = some v), _, fun i j => decide (ns.getD i 0 > ns.getD j 0), rfl, W, S0, ?_, ?_, CmpOf.ints_gt (fun i => ns.getD i 0) (fun i v hv => hat i v (by simpa using hv)), ?_⟩
 ·intro b hb
  simp only [List.mem_cons, List.not_mem_nil, or_false] at hb
  rw [Heap.size_push]
  rcases hb with rfl | rfl
  ·exact Nat.lt_succ_self _
  ·exact Nat.lt_succ_of_lt (Heap.lt_size ho)
 ·simp only [List.size_toArray]; omega
 ·intro v h' tk hv kp
  obtain ⟨hb1, hb2⟩ := best_gt (fun i => ns.getD i 0) (its.toArray.size - 1)
  simp only [List.size_toArray] at hb1 hb2 hv
  rw [List.getElem?_toArray] at hv
  obtain ⟨t, rfl⟩ := hat _ v hv
  refine ⟨.int _, H, I.kept (t' := tk) (fun b ob hq => kp b ob ?_ (Heap.get?_push_of_some _ hq)), ⟨t, rfl⟩, q _ (mem_of_getD (by omega)) fun a ha => ?_⟩
  ·simp only [List.mem_cons, List.not_mem_nil, or_false]
   exact Nat.ne_of_lt (Heap.lt_size hq)
  ·obtain ⟨j, hj⟩ := List.getElem?_of_mem ha
   have lj := (List.getElem?_eq_some_iff.mp hj).1
   have := hb2 j (by omega)
   rw [show ns.getD j 0 = a by rw [List.getD_eq_getElem?_getD, hj]; rfl] at this
   exact this
noncomputable def keyF : List V → Option (List Key)
 | [] => some []
 | .int i :: r => (keyF r).map (Sum.inl i :: ·)
 | _ => none
theorem keyF_map : ∀ {xs : List V} {k : List Key}, keyF xs = some k → xs = k.map kV
 | [], k, h => by cases h; rfl
 | .int i :: r, k, h => by
  simp only [keyF] at h
  cases e : keyF r with
  | none => rw [e] at h; cases h
  | some k' =>
   rw [e] at h
   cases h
   rw [keyF_map e]
   rfl
noncomputable def tDpT (td ty tv : TE) : TS := fun D σ H => tv σ H fun v H1 => td σ H1 fun x H2 => ty σ H2 fun y H3 => ∃ a b kvs xs k, x = .ref a ∧ y = .ref b ∧ H3 a = some (.dT kvs) ∧ H3 b = some (.tup xs) ∧ keyF xs = some k ∧ kvs.length < 1000000 ∧ D.nx σ (upd H3 a (.dT (putK kvs k v)))
theorem ps_dpT {o i value : Expr} {td ty tv : TE} (hu : X.A.units + 1 < cLine) (ho : PE X o td) (hi : PE X i ty) (hv : PE X value tv) (hs : swapsWith value (some (.Subscript o i pos')) pos.line X.env = pure false) :
  PS X (.Assign [.Subscript o i pos'] value pos) (tDpT td ty tv) := by
 intro pins s σ H D I h
 refine wpAny_Assign_Subscript (thn (hv pins s σ H _ I h) fun r s1 ⟨v, H1, I1, rv, q1⟩ => thn (ho pins s1 σ H1 _ I1 q1) fun u s2 ⟨x, H2, I2, rx, q2⟩ => thn (hi pins s2 σ H2 _ I2 q2) fun iv s3 ⟨y, H3, I3, ry, a, b, kvs, xs, k, ex, ey, e1, e2, ek, hl, q3⟩ => ?_) hs
 subst ex
 subst ey
 obtain rfl : u = Value.ref a := rx
 rw [keyF_map ek] at e2
 exact d_setItem hu I3 (DPut.t e1 e2 (small6 hl)) ry rv fun s4 I4 => ⟨σ, _, I4, q3⟩
end
end L2
set_option Elab.async false
set_option linter.all false
set_option maxRecDepth 100000
namespace L2
open PySem PySem.Spec PyProof.Rows
noncomputable def Ite (K : PySem.W.Frag) (a : Addr) : It :=
 ⟨fun i H => ∃ xs, SqL K H a xs ∧ i < xs.length,
  fun i H v H' => ∃ t, v = .ref t ∧ H t = none ∧ ∀ xs x, SqL K H a xs → xs[i]? = some x → H' = upd H t (.tup [.int (i : Int), x]),
  fun i H => ∃ xs, SqL K H a xs ∧ i = xs.length⟩
noncomputable def iEnum (K : PySem.W.Frag) (ta : TA) : TI := fun σ H R => ta σ H fun vs H1 => ∃ a, vs = [.ref a] ∧ (∃ xs, SqL K H1 a xs) ∧ R (Ite K a) H1
section
variable {X : Cx}
theorem turn_enum {P : Program} {w : World} {K : PySem.W.Frag} {elts : List Expr} {kk : Nat} {pos : Pos} (n l : Addr) (h1 : l < n) : Turn P w K (.Tuple elts kk pos) (Ite K l) [n + 1, n] (n + 1)
  (fun i h => (∃ old, IsEnum h (n + 1) n (↑i) old) ∧ h.IsListIter n l i) where
 mem := by simp
 obj := fun i h st b hb => by
  obtain ⟨⟨old, z1⟩, ⟨o1, e1, c1, d1⟩⟩ := st
  simp only [List.mem_cons, List.not_mem_nil, or_false] at hb
  rcases hb with rfl | rfl
  ·exact ⟨_, z1, fun v q => by cases q⟩
  ·exact ⟨_, e1, fun v q => by rw [d1] at q; cases q⟩
 keep := fun i h h' st k => by
  obtain ⟨⟨old, z1⟩, z4⟩ := st
  exact ⟨⟨old, k _ (by simp) _ z1⟩, z4.at fun o e => k _ (by simp) o e⟩
 item := by
  intro X hP hw hK hc i pins s σ H E I hf st hg
  subst hP hw hK
  obtain ⟨xs, q1, hi⟩ := hg
  obtain ⟨us, r1, p1, _⟩ := I.list q1
  obtain ⟨z1, z4⟩ := st
  have W := WalksT.enumerate (prog := X.prog) (w := X.w) (I.ok.hd hc) (n + 1) n l (Nat.succ_ne_self n) (Nat.ne_of_lt (Nat.lt_succ_of_lt h1)) (Nat.ne_of_lt h1) us.toArray
  have len1 := r1.length
  refine W.item i s _ _ (by simp only [List.size_toArray]; omega) ⟨z1, z4, p1.isList⟩ fun T vals h' tk hPt hT hTup hMid hk => ?_
  obtain ⟨t, u, hu, rfl⟩ := hPt
  refine ⟨.ref T, rfl, W.go elts kk pos i T _ _ _ hMid fun h'' st' hk' => ?_⟩
  obtain ⟨x, hx⟩ : ∃ x, xs[i]? = some x := ⟨_, List.getElem?_eq_getElem hi⟩
  obtain ⟨u', eu, rx⟩ := r1.get hx
  have e1 : u' = u := by
   have z : us[i]? = some u := by simpa using hu
   rw [eu] at z
   exact Option.some.inj z
  subst e1
  have ap := W.apart i T h' hMid
  have ht2 : h''.IsTuple T #[.int (i : Int) t, u'] := hTup.at fun o e => hk' T o ap e
  have J := zip_inv (x := .int (i : Int)) (tk := tk) (h' := h'') I (wr := [n + 1, n]) hf hT ht2 ⟨t, rfl⟩ rx (fun b o hb e => hk' b o hb (hk b o hb e))
  refine ⟨.ref T, _, J, rfl, ⟨T, rfl, I.hok.fresh hT, fun xs' x' a1 a3 => ?_⟩, ⟨st'.1, st'.2.1⟩, fun b hb => ?_⟩
  ·rw [I.list_inj a1 q1, hx] at a3
   cases a3
   rfl
  ·have hb0 := (hf b hb).1
   have hlt : b < s.heap.objs.size := by
    obtain ⟨old, z1⟩ := z1
    obtain ⟨o1, e1, _⟩ := z4
    simp only [List.mem_cons, List.not_mem_nil, or_false] at hb
    rcases hb with rfl | rfl
    ·exact Heap.lt_size z1
    ·exact Heap.lt_size e1
   rw [upd_ne (Nat.ne_of_lt (Nat.lt_of_lt_of_le hlt hT))]
   exact hb0
 done := by
  intro X hP hw hK hc i pins s σ H E I hf st hg
  subst hP hw hK
  obtain ⟨xs, q1, hi⟩ := hg
  obtain ⟨us, r1, p1, _⟩ := I.list q1
  obtain ⟨z1, z4⟩ := st
  have W := WalksT.enumerate (prog := X.prog) (w := X.w) (I.ok.hd hc) (n + 1) n l (Nat.succ_ne_self n) (Nat.ne_of_lt (Nat.lt_succ_of_lt h1)) (Nat.ne_of_lt h1) us.toArray
  have e : i = us.toArray.size := by
   simp only [List.size_toArray]
   rw [← r1.length]
   exact hi
  subst e
  refine W.done s _ _ ⟨z1, z4, p1.isList⟩ fun h' tk hk => ⟨rfl, ?_⟩
  have tr : ∀ b w, H b = some w → b ∉ [n + 1, n] := fun b w e z => by
   rw [(hf b z).1] at e
   cases e
  refine I.step (g' := s.gens) (d' := s.drawn) (ch := [n + 1, n]) (fun b hb => ?_) (fun b o _ _ hc e _ => hk b o hc e) (fun b o _ _ hc e _ => ⟨o.slots, hk b o hc e⟩) (fun b o hc e n => n) (fun b o hc e => ⟨o, hk b o hc e⟩) (fun b xs e => e) (fun b o w e => e) (fun b ps e => ⟨#[], by rw [e]; simp⟩) (fun m hm => ?_) (fun b w e => ?_) I.bare
  ·obtain ⟨f0, f1, f2, f3, f4, f5⟩ := hf b hb
   exact ⟨f3, f1, f4, f5⟩
  ·obtain ⟨o, es, ep, ho, r⟩ := hm
   exact ⟨o, es, ep, hk _ o (fun z => (hf _ z).2.1 rfl) ho, r⟩
  ·refine (I.hok b w e).stay (fun c z hc q => hk c z ?_ q) (fun _ q => q) fun _ _ q => q
   rcases hc with rfl | hc
   ·exact tr _ _ e
   ·exact tr _ _ hc
 self := fun A i s Q E st q => by
  obtain ⟨⟨old, z1⟩, _⟩ := st
  exact wpAny_pyIter_enum z1 q
theorem pi_enum {a : Expr} {ta : TA} {p pos tpos : Pos} {elts : List Expr} {kk : Nat} {K : PySem.W.Frag} (hK : X.K = K) (hg : Gl X "enumerate") (hm : X.mg "enumerate" = none) (ha : PA X [a] ta) (hs : starEach [a] X.env = [(false, eval a X.env)] := by rfl) :
  PI X (.Tuple elts kk tpos) (.Call (.Name "enumerate" p) [a] [] pos) (iEnum K ta) := by
 subst hK
 intro pins s σ H R I h
 refine Call_ (ld_blt I hg hm boot_enumerate (PyProof.Rows.callWith_type1 (thn (ha pos pins s σ H _ I h) fun us s1 z => ?_) hs rfl))
 obtain ⟨vs, H1, I1, r1, l, rfl, ⟨xs, q1⟩, q⟩ := z
 obtain ⟨u, rfl, ru⟩ := r1.one
 obtain rfl : u = Value.ref l := ru
 obtain ⟨is1, s1', p1, _⟩ := I1.list q1
 have b1 : l < s1.heap.objs.size := by
  obtain ⟨o, e, _⟩ := p1.isList
  exact Heap.lt_size e
 refine call_enumerate_list p1.isList fun h' hz hi1 hsz hk => ?_
 refine wpAny_pyIter_enum hz ?_
 refine ⟨_, _, _, _, H1, rfl, I1.kept (t' := s1.toks) hk, turn_enum s1.heap.objs.size l b1, ⟨⟨_, hz⟩, hi1⟩, fun b hb => ?_, q⟩
 simp only [List.mem_cons, List.not_mem_nil, or_false] at hb
 have hle : s1.heap.objs.size ≤ b := by
  rcases hb with rfl | rfl <;> omega
 exact I1.fpOk hle (I1.hok.fresh hle)
end
section
variable {K : PySem.W.Frag} {a : Addr} {xs : List V} {ta : TA} {g : TG} {tb : TS} {Dn : Ends} {σ : St} {H : Hp}
theorem tfor_enum (Ra : Addr → Hp → Prop) (ha : ∀ R : List V → Hp → Prop, (∀ a H1, Ra a H1 → R [.ref a] H1) → ta σ H R)
  (hb : ∀ a H1, Ra a H1 → ∃ xs, ∃ Pv : Nat → St → Hp → Prop, Pv 0 σ H1 ∧ (∀ i σ H, i ≤ xs.length → Pv i σ H → SqL K H a xs) ∧
   (∀ i x t σ H, xs[i]? = some x → Pv i σ H → H t = none → g (.ref t) σ (upd H t (.tup [.int (i : Int), x])) fun σ2 H2 => tb { Dn with nx := Pv (i + 1), ct := Pv (i + 1), bk := Dn.nx } σ2 H2) ∧ ∀ σ H, Pv xs.length σ H → Dn.nx σ H) :
  tFor (iEnum K ta) g tb Dn σ H := by
 refine ha _ fun a H1 q => ?_
 obtain ⟨xs, Pv, h0, hq, hs, hd⟩ := hb a H1 q
 have s1 := hq 0 σ H1 (Nat.zero_le _) h0
 refine ⟨a, rfl, ⟨xs, s1⟩, fun i m σ H => Pv i σ H ∧ i ≤ xs.length ∧ m = xs.length - i, ⟨_, h0, Nat.zero_le _, rfl⟩, ?_⟩
 rintro i m σ H ⟨p, hi, rfl⟩
 have s1 := hq i σ H hi p
 rcases Nat.lt_or_eq_of_le hi with hi | hi
 ·right
  refine ⟨⟨xs, s1, by omega⟩, fun σ' H' => Pv (i + 1) σ' H', fun σ' H' p' => ⟨xs.length - (i + 1), by omega, p', by omega, rfl⟩, ?_⟩
  rintro v H' ⟨t, rfl, hn, e⟩
  obtain ⟨x, hx⟩ : ∃ x, xs[i]? = some x := ⟨_, List.getElem?_eq_getElem hi⟩
  rw [e xs x s1 hx]
  exact hs i x t σ H hx p hn
 ·left
  exact ⟨⟨xs, s1, by omega⟩, hd σ H (hi ▸ p)⟩
end
noncomputable def rInD (K : PySem.W.Frag) : R2 := fun x y H Q => ∃ d ds, Rdy K H x d ∧ Rdy K H y (.list ds) ∧ SeqAt.shaped d = true ∧ SeqAt.shaped (.list ds) = true ∧ (∀ y ∈ ds, SeqAt.noMix y d = true) ∧ Q (.bl (decide (Spec.countIn d ds ≠ 0))) H
theorem op_inDK {X : Cx} {K : PySem.W.Frag} (hK : X.K = K) (hu : X.A.units + 65 < cLine) : OpR X (compareOp .In) (rInD K) := by
 subst hK
 intro pins s σ H x y v u Q I rx ry h
 obtain ⟨d, ds, h1, h2, s1, s2, nm, q⟩ := h
 obtain ⟨as, r1⟩ := h1.reads I rx
 obtain ⟨bs, r2⟩ := h2.reads I ry
 exact in_list_dataH r2 r1 s2 s1 hu nm ⟨.bl _, H, I, rfl, q⟩
theorem pe_globI {X : Cx} {x : Str} {i : Int} {pos : Pos} (hg : Gl X x) (hm : ∃ t, X.mg x = some (.int i t)) (hd : (x == ("__debug__" : Str)) = false := by decide) : PE X (.Name x pos) (tC (.int i)) := by
 obtain ⟨t, hm⟩ := hm
 exact pe_glob hg hm ⟨t, rfl⟩ hd
end L2
set_option Elab.async false
set_option linter.all false
set_option maxRecDepth 100000
set_option Elab.async false
set_option linter.all false
set_option maxRecDepth 100000
set_option Elab.async false
set_option linter.all false
set_option maxRecDepth 100000
namespace L2
open PySem PySem.Spec PyProof.Rows
section
variable {X : Cx}
noncomputable def clrR : V → List V → Hp → VK → Prop := fun x vs H Q => match x, vs with
 | .ref l, [] => optK (lstOf (H l)) fun _ => Q .non (upd H l (.lst []))
 | _, _ => False
variable {o : Expr} {to : TE} {apos cpos : Pos}
end
end L2
set_option Elab.async false
set_option linter.all false
set_option maxRecDepth 100000
namespace L2
open PySem
mutual
noncomputable def plainD : PyData → Bool
 | .int _ => true
 | .none => true
 | .list xs => plainDs xs
 | .tuple xs => plainDs xs
 | _ => false
noncomputable def plainDs : List PyData → Bool
 | [] => true
 | x :: xs => plainD x && plainDs xs
end
mutual
theorem eqv_iff : ∀ (d e : PyData), plainD d = true → plainD e = true → (PyData.eqv d e = true ↔ d = e)
 | .int a, e, _, he => by
  cases e <;> simp [PyData.eqv, plainD] at he ⊢
 | .none, e, _, he => by
  cases e <;> simp [PyData.eqv, plainD] at he ⊢
 | .list xs, e, hd, he => by
  cases e with
  | list ys =>
   simp only [plainD] at hd he
   simp only [PyData.eqv, PyData.list.injEq]
   exact eqvAll_iff xs ys hd he
  | _ => simp [PyData.eqv, plainD] at he ⊢
 | .tuple xs, e, hd, he => by
  cases e with
  | tuple ys =>
   simp only [plainD] at hd he
   simp only [PyData.eqv, PyData.tuple.injEq]
   exact eqvAll_iff xs ys hd he
  | _ => simp [PyData.eqv, plainD] at he ⊢
 | .bool _, e, hd, _ => by simp [plainD] at hd
 | .str _, e, hd, _ => by simp [plainD] at hd
 | .dict _, e, hd, _ => by simp [plainD] at hd
theorem eqvAll_iff : ∀ (xs ys : List PyData), plainDs xs = true → plainDs ys = true → (PyData.eqvAll xs ys = true ↔ xs = ys)
 | [], [], _, _ => by simp [PyData.eqvAll]
 | [], y :: ys, _, _ => by simp [PyData.eqvAll]
 | x :: xs, [], _, _ => by simp [PyData.eqvAll]
 | x :: xs, y :: ys, hx, hy => by
  simp only [plainDs, Bool.and_eq_true] at hx hy
  simp only [PyData.eqvAll, Bool.and_eq_true, List.cons.injEq]
  rw [eqv_iff x y hx.1 hy.1, eqvAll_iff xs ys hx.2 hy.2]
end
theorem plainDs_map {α : Type} (f : α → PyData) (h : ∀ a, plainD (f a) = true) : ∀ l : List α, plainDs (l.map f) = true
 | [] => rfl
 | a :: l => by
  rw [List.map_cons, plainDs, h a, plainDs_map f h l]
  rfl
theorem eqv_pos {d e : PyData} (hd : plainD d = true) (h : d = e) : PyData.eqv d e = true := (eqv_iff d e hd (h ▸ hd)).mpr h
theorem eqv_neg {d e : PyData} (hd : plainD d = true) (he : plainD e = true) (h : d ≠ e) : PyData.eqv d e = false := by
 cases q : PyData.eqv d e with
 | false => rfl
 | true => exact absurd ((eqv_iff d e hd he).mp q) h
end L2
namespace L2
open PySem
section
variable {ta : TA} {g : TG} {tb : TS} {Dn : Ends} {σ : St} {H : Hp}
theorem tfor_rangeH (Pn : Nat → Hp → Prop) (ha : ∀ R : List V → Hp → Prop, (∀ (n : Nat) H1, Pn n H1 → R [.int n] H1) → ta σ H R)
  (hb : ∀ n H1, Pn n H1 → n < 1000000 ∧ ∃ Pv : Nat → St → Hp → Prop, Pv 0 σ H1 ∧ (∀ i σ H, i < n → Pv i σ H → g (.int (0 + (i : Int))) σ H fun σ2 H2 => tb { Dn with nx := Pv (i + 1), ct := Pv (i + 1), bk := Dn.nx } σ2 H2) ∧ ∀ σ H, Pv n σ H → Dn.nx σ H) : tFor (iRng1 ta) g tb Dn σ H :=
 ha _ fun n H1 hn => by
  obtain ⟨h1, Pv, h0, hs, hd⟩ := hb n H1 hn
  exact ⟨n, rfl, by omega, by omega, for_range (lo := 0) (n := (n : Int).toNat) Pv h0 (fun i σ H hi p => hs i σ H (by simpa using hi) p) (fun σ H p => hd σ H (by simpa using p))⟩
end
end L2
namespace L2
open PySem
theorem pa_consS {X : Cx} {a b : Expr} {p : Pos} {es : List Expr} {te : TE} {t : TA} (ha : PE X (.Subscript a b p) te) (hr : PA X es t) : PA X (.Subscript a b p :: es) (tCons te t) := pa_cons ha hr rfl
end L2
set_option Elab.async false
set_option linter.all false
set_option maxRecDepth 100000
set_option Elab.async false
set_option linter.all false
set_option maxRecDepth 100000
namespace L2
open PySem PySem.Spec PyProof.Rows
section
variable {X : Cx} {a b : Expr} {ta tb : TE} {pos : Pos}
noncomputable def fVar (i : Nat) : TE := fun σ H Q => match σ[i]? with
 | some (some v) => Q v H
 | _ => False
theorem pvF (i : Nat) {x : Str} (hN : X.N[i]? = some x := by rfl) (hv : Vis X.env.scope x := by first | exact Or.inl rfl | exact Or.inr (Or.inl rfl) | exact Or.inr (Or.inr rfl)) (hd : (x == ("__debug__" : Str)) = false := by decide)
  (hcd : (x == ("__classdict__" : Str)) = false := by decide) : PE X (.Name x pos) (fVar i) := by
 intro pins s σ H Q I h
 refine pv i hN hv hd hcd pins s σ H Q I ?_
 unfold fVar at h
 split at h
 ·exact ⟨_, ‹_›, h⟩
 ·exact h.elim
noncomputable def fI (C : Int → Int → Prop) (g : Int → Int → V) : R2 := fun x y H Q => match x, y with
 | .int i, .int j => C i j ∧ Q (g i j) H
 | _, _ => False
noncomputable def fI0 (g : Int → Int → V) : R2 := fun x y H Q => match x, y with
 | .int i, .int j => Q (g i j) H
 | _, _ => False
noncomputable def fU (g : Int → V) : V → Hp → VK → Prop := fun x H Q => match x with
 | .int i => Q (g i) H
 | _ => False
theorem OpR.f {F : Value → Value → Sem Value} {C : Int → Int → Prop} {g : Int → Int → V} (h : OpR X F (rI C g)) : OpR X F (fI C g) := by
 intro pins s σ H x y v u Q I r1 r2 q
 refine h pins s σ H x y v u Q I r1 r2 ?_
 unfold fI at q
 split at q
 ·exact ⟨_, _, rfl, rfl, q.1, q.2⟩
 ·exact q.elim
theorem OpR.f0 {F : Value → Value → Sem Value} {g : Int → Int → V} (h : OpR X F (rI0 g)) : OpR X F (fI0 g) := by
 intro pins s σ H x y v u Q I r1 r2 q
 refine h pins s σ H x y v u Q I r1 r2 ?_
 unfold fI0 at q
 split at q
 ·exact ⟨_, _, rfl, rfl, q⟩
 ·exact q.elim
theorem UnR.f {F : Value → Sem Value} {g : Int → V} (h : UnR X F (rU g)) : UnR X F (fU g) := by
 intro pins s σ H x v Q I r1 q
 refine h pins s σ H x v Q I r1 ?_
 unfold fU at q
 split at q
 ·exact ⟨_, rfl, q⟩
 ·exact q.elim
noncomputable def fEq : R2 := fun x y H Q => match x, y with
 | .int i, .int j => Q (.bl (decide (i = j))) H
 | _, _ => rEq x y H Q
noncomputable def fNe : R2 := fun x y H Q => match x, y with
 | .int i, .int j => Q (.bl (!decide (i = j))) H
 | _, _ => rNe x y H Q
theorem OpR.e {F : Value → Value → Sem Value} (h : OpR X F rEq) : OpR X F fEq := by
 intro pins s σ H x y v u Q I r1 r2 q
 refine h pins s σ H x y v u Q I r1 r2 ?_
 unfold fEq at q
 split at q
 ·refine ⟨rfl, ?_⟩
  simpa only [V.int.injEq] using q
 ·exact q
theorem OpR.n {F : Value → Value → Sem Value} (h : OpR X F rNe) : OpR X F fNe := by
 intro pins s σ H x y v u Q I r1 r2 q
 refine h pins s σ H x y v u Q I r1 r2 ?_
 unfold fNe at q
 split at q
 ·refine ⟨rfl, ?_⟩
  simpa only [V.int.injEq] using q
 ·exact q
theorem op_eqI : OpR X (compareOp .Eq) (fI0 fun i j => .bl (decide (i = j))) := OpR.f0 (opB0 fun _ _ _ _ _ _ _ q => eq_int q)
theorem op_neI : OpR X (compareOp .NotEq) (fI0 fun i j => .bl (!decide (i = j))) := OpR.f0 (opB0 fun _ _ _ _ _ _ _ q => ne_int q)
noncomputable def fNeB : R2 := fun x y H Q => match x, y with
 | .bl i, .bl j => Q (.bl (!decide (i = j))) H
 | _, _ => False
noncomputable def fTest (t : TE) : TT := fun σ H Q => t σ H fun x H' => match x with
 | .bl k => Q k H'
 | _ => False
theorem pt_cmpF {op : CmpOp} {r : R2} (ho : OpR X (compareOp op) r) (ha : PE X a ta) (hb : PE X b tb) (hm : behindInMarks op b = false) : PT X (.Compare a [op] [b] pos) (fTest (tOp r ta tb)) := by
 intro pins s σ H Q I h
 refine wpAny_isTrue_Compare1 (thn (ha pins s σ H _ I h) fun v s1 ⟨x, H1, I1, r1, q1⟩ => thn (hb pins s1 σ H1 _ I1 q1) fun u s2 ⟨y, H2, I2, r2, q2⟩ =>
  thn (ho pins s2 σ H2 x y v u _ I2 r1 r2 q2) fun c s3 ⟨z, H3, I3, r3, q3⟩ => ?_) hm
 dsimp only at q3
 split at q3
 ·cases r3
  exact wpAny_truthy_bool ⟨H3, I3, q3⟩
 ·exact q3.elim
noncomputable def fCons (t : TG) (u : TGs) : TGs := fun vs σ H Q => match vs with
 | v :: r => t v σ H fun σ' H' => u r σ' H' Q
 | [] => False
noncomputable def fNil : TGs := fun vs σ H Q => match vs with
 | [] => Q σ H
 | _ => False
theorem pgs_nilF : PGs X [] fNil := by
 intro pins s σ H vs us Q I r h
 refine pgs_nil pins s σ H vs us Q I r ?_
 unfold fNil at h
 split at h
 ·exact ⟨rfl, h⟩
 ·exact h.elim
theorem pgs_consF {e : Expr} {es : List Expr} {t : TG} {u : TGs} (h1 : PG X e t) (h2 : PGs X es u)
  (hs : (assignEach (e :: es) X.env).map (·.2) = assign e X.env :: (assignEach es X.env).map (·.2) := by rfl) : PGs X (e :: es) (fCons t u) := by
 intro pins s σ H vs us Q I r h
 refine pgs_cons h1 h2 hs pins s σ H vs us Q I r ?_
 unfold fCons at h
 split at h
 ·exact ⟨_, _, rfl, h⟩
 ·exact h.elim
theorem pt_valF {e : Expr} {t : TE} (h : PE X e t) (he : ∀ whole, isTrue e X.env whole = (do let v ← whole; standAt e.pos; holding [v] (truthy v)) := by intro _; rfl) : PT X e (fTest t) := by
 intro pins s σ H Q I hw
 refine isTrue_plain (thn (h pins s σ H _ I hw) fun v s1 ⟨x, H1, I1, r1, q1⟩ => ?_) (he _)
 dsimp only at q1
 split at q1
 ·cases r1
  exact wpAny_truthy_bool ⟨H1, I1, q1⟩
 ·exact q1.elim
end
end L2
set_option Elab.async false
set_option linter.all false
set_option maxRecDepth 100000
namespace L2
open PySem PySem.Spec PyProof.Rows
noncomputable def tDgI (td ti : TE) : TE := fun σ H Q => td σ H fun x H1 => ti σ H1 fun y H2 => match x, y with
 | .ref a, .int i => optK (dkOf (H2 a)) fun kvs => optK (valV kvs (Sum.inl i)) fun v => Q v H2
 | _, _ => False
noncomputable def tDpI (td ti tv : TE) : TS := fun D σ H => tv σ H fun v H1 => td σ H1 fun x H2 => ti σ H2 fun y H3 => match x, y with
 | .ref a, .int i => optK (dkOf (H3 a)) fun kvs => kvs.length < 1000000 ∧ D.nx σ (upd H3 a (.dK (putK kvs (Sum.inl i) v)))
 | _, _ => False
noncomputable def tDgetI (td ti tx : TE) : TE := fun σ H Q => td σ H fun x H1 => match x with
 | .ref a => (dkOf (H1 a)).isSome = true ∧ ti σ H1 fun y H2 => tx σ H2 fun z H3 => match y with
  | .int i => optK (dkOf (H3 a)) fun kvs => Q ((valV kvs (Sum.inl i)).getD z) H3
  | _ => False
 | _ => False
noncomputable def popAtR : V → List V → Hp → VK → Prop := fun x vs H Q => match x, vs with
 | .ref l, [.int i] => optK (lstOf (H l)) fun xs => xs.length < 1000000 ∧ optK (ixN xs.length i) fun k => optK (xs[k]?) fun y => Q y (upd H l (.lst (xs.eraseIdx k)))
 | _, _ => False
noncomputable def revR : V → List V → Hp → VK → Prop := fun x vs H Q => match x, vs with
 | .ref l, [] => optK (lstOf (H l)) fun xs => Q .non (upd H l (.lst xs.reverse))
 | _, _ => False
noncomputable def insAt (n : Nat) (i : Int) : Nat := if i < 0 then (i + (n : Int)).toNat else min i.toNat n
noncomputable def insR : V → List V → Hp → VK → Prop := fun x vs H Q => match x, vs with
 | .ref l, [.int i, y] => optK (lstOf (H l)) fun xs => xs.length < 1000000 ∧ (-(2 ^ 63) ≤ i ∧ i < 2 ^ 63) ∧ Q .non (upd H l (.lst (xs.take (insAt xs.length i) ++ [y] ++ xs.drop (insAt xs.length i))))
 | _, _ => False
end L2
set_option Elab.async false
set_option linter.all false
set_option maxRecDepth 100000
namespace L2
open PySem PySem.Spec PyProof.Rows
noncomputable def countB : V → List V → Hp → VK → Prop := fun x vs H Q => match x, vs with
 | .ref l, [.bl k] => ∃ bs : List Bool, H l = some (.lst (bs.map V.bl)) ∧ Q (.int (bs.count k : Int)) H
 | _, _ => False
noncomputable def indexB : V → List V → Hp → VK → Prop := fun x vs H Q => match x, vs with
 | .ref l, [.bl k] => ∃ bs : List Bool, H l = some (.lst (bs.map V.bl)) ∧ k ∈ bs ∧ Q (.int (bs.idxOf k : Int)) H
 | _, _ => False
noncomputable def isB (k : Bool) : Value → Bool
 | .bool b => b == k
 | _ => false
theorem eqAt_bool {A : Around} {s : Shared} (b k : Bool) : SeqAt.EqAt A s (.bool b) (.bool k) (isB k (.bool b)) := by
 have h := eqAt_V (A := A) (s := s) (y := .bl b) (x := .bl k) rfl rfl rfl rfl
 have e : eqV (.bl b) (.bl k) = isB k (.bool b) := by cases b <;> cases k <;> rfl
 rw [← e]
 exact h
theorem countP_bool (k : Bool) : ∀ bs : List Bool, List.countP (isB k) (bs.map Value.bool) = bs.count k
 | [] => rfl
 | b :: r => by
  rw [List.map_cons, List.countP_cons, List.count_cons, countP_bool k r]
  rfl
section
variable {X : Cx}
theorem mt_countB : MtM X "list.count" countB := by
 intro pins s σ H x vs v us Q I rx rv h
 unfold countB at h
 split at h
 ·rename_i l k
  obtain ⟨bs, hH, q⟩ := h
  cases rx
  obtain ⟨u, rfl, ru⟩ := rv.one
  obtain rfl : u = Value.bool k := ru
  obtain ⟨z, its, n, r, hl, e⟩ := I.lstM hH
  have ei := vals_bl r
  refine call_meets F.slot_list_count ⟨_, e, rfl⟩ F.entry_list_count (F.args_list_count_2 _ _) (SeqAt.list_countAt l its.toArray n _ _ _ (isB k)) ⟨e, fun y hy => ?_, ?_⟩
  ·rw [ei] at hy
   obtain ⟨b, _, rfl⟩ := List.mem_map.mp (List.mem_toArray.mp hy)
   exact eqAt_bool b k
  ·refine ⟨.int _, H, I.tok _, ⟨_, rfl⟩, ?_⟩
   rw [show its.toArray.toList = its from rfl, ei, countP_bool]
   exact q
 ·exact h.elim
theorem mt_indexB : MtM X "list.index" indexB := by
 intro pins s σ H x vs v us Q I rx rv h
 unfold indexB at h
 split at h
 ·rename_i l k
  obtain ⟨bs, hH, hk, q⟩ := h
  cases rx
  obtain ⟨u, rfl, ru⟩ := rv.one
  obtain rfl : u = Value.bool k := ru
  obtain ⟨z, its, n, r, hl, e⟩ := I.lstM hH
  have ei := vals_bl r
  subst ei
  have lj := List.idxOf_lt_length_of_mem hk
  have lz : bs.length ≤ sizeLine := by rw [List.length_map] at z; exact z
  refine call_meets F.slot_list_index ⟨_, e, rfl⟩ F.entry_list_index (F.args_list_index_2 _ _) (SeqAt.list_indexAt l _ n _ _ _ (isB k) (bs.idxOf k) (by simpa using lj) ?_ ?_ ?_) ⟨e, fun y hy => ?_, ?_⟩
  ·have : sizeLine < 2 ^ 62 := by decide
   omega
  ·simp [isB]
  ·intro m hm lm
   have lb : m < bs.length := by omega
   have : (bs[m] == k) = false := by
    have := List.not_of_lt_findIdx (p := (· == k)) (xs := bs) (i := m) (by simpa [List.idxOf] using lm)
    simpa using this
   simpa [isB] using this
  ·obtain ⟨b, _, rfl⟩ := List.mem_map.mp (List.mem_toArray.mp hy)
   exact eqAt_bool b k
  ·exact ⟨.int _, H, I.tok _, ⟨_, rfl⟩, q⟩
 ·exact h.elim
end
section
variable {X : Cx} {o e : Expr} {apos cpos : Pos} {to : TE} {t : TA}
theorem pe_cntB (ho : PE X o to) (ha : PA X [e] t)
  (hbase : attributeBase o "count" X.env (eval o X.env) = eval o X.env := by rfl)
  (hfew : ((backTo cpos (starEach [e] X.env)).all (fun x => !x.1) && (backToKw cpos (keywordEach [] X.env)).all (fun x => x.1.isSome)
   && decide ([e].length + ([] : List Keyword).length + (if ([] : List Keyword).isEmpty then 0 else 1) < 30)) = true := by rfl)
  (hline : (apos.endLine == cpos.line) = true := by rfl) (hs : starEach [e] X.env = (false, eval e X.env) :: starEach [] X.env := by rfl) (hplain : (backTo cpos (starEach [] X.env)).any (·.1) = false := by rfl) :
  PE X (.Call (.Attribute o "count" apos) [e] [] cpos) (tML countB to t) := by
 intro pins s σ H Q I h
 refine pe_bm PySem.F.plainAttrs_list PySem.F.slot_list_count PySem.F.type_list_count mt_countB ho.up ha hbase hfew hline hs hplain pins s σ H Q I ⟨_, h, fun x H1 q => ?_⟩
 cases x with
 | ref l =>
  obtain ⟨h1, h2⟩ := q
  obtain ⟨xs, e⟩ := Option.isSome_iff_exists.mp h1
  exact ⟨.inl ⟨rfl, xs, SqL.of (lstOf_eq e)⟩, h2⟩
 | _ => exact q.elim
theorem pe_idxB (ho : PE X o to) (ha : PA X [e] t)
  (hbase : attributeBase o "index" X.env (eval o X.env) = eval o X.env := by rfl)
  (hfew : ((backTo cpos (starEach [e] X.env)).all (fun x => !x.1) && (backToKw cpos (keywordEach [] X.env)).all (fun x => x.1.isSome)
   && decide ([e].length + ([] : List Keyword).length + (if ([] : List Keyword).isEmpty then 0 else 1) < 30)) = true := by rfl)
  (hline : (apos.endLine == cpos.line) = true := by rfl) (hs : starEach [e] X.env = (false, eval e X.env) :: starEach [] X.env := by rfl) (hplain : (backTo cpos (starEach [] X.env)).any (·.1) = false := by rfl) :
  PE X (.Call (.Attribute o "index" apos) [e] [] cpos) (tML indexB to t) := by
 intro pins s σ H Q I h
 refine pe_bm PySem.F.plainAttrs_list PySem.F.slot_list_index PySem.F.type_list_index mt_indexB ho.up ha hbase hfew hline hs hplain pins s σ H Q I ⟨_, h, fun x H1 q => ?_⟩
 cases x with
 | ref l =>
  obtain ⟨h1, h2⟩ := q
  obtain ⟨xs, e⟩ := Option.isSome_iff_exists.mp h1
  exact ⟨.inl ⟨rfl, xs, SqL.of (lstOf_eq e)⟩, h2⟩
 | _ => exact q.elim
end
end L2
namespace MA
noncomputable def sgn (n : Int) : Int := if n < 0 then -1 else if 0 < n then 1 else 0
theorem sgn_pos {n : Int} (h : 0 < n) : sgn n = 1 := by unfold sgn; rw [if_neg (by omega), if_pos h]
theorem sgn_neg {n : Int} (h : n < 0) : sgn n = -1 := by unfold sgn; rw [if_pos h]
theorem sgn_range (n : Int) : sgn n = -1 ∨ sgn n = 0 ∨ sgn n = 1 := by unfold sgn; split <;> (try split) <;> simp
noncomputable def ab (i : Int) : Int := if i < 0 then -i else i
theorem ab_eq (i : Int) : ab i = (i.natAbs : Int) := by unfold ab; split <;> omega
theorem gcd_step {a b : Int} (hb : 0 < b) : Int.gcd b (a % b) = Int.gcd a b := by
 rw [Int.gcd_comm a b]
 have h : Int.gcd b (a % b + b * (a / b)) = Int.gcd b (a % b) := Int.gcd_add_mul_left_right ..
 rw [Int.emod_add_mul_ediv] at h
 exact h.symm
theorem gcd_abs_left (a b : Int) : Int.gcd (a.natAbs : Int) b = Int.gcd a b := by
 rw [Int.gcd_eq_natAbs_gcd_natAbs, Int.gcd_eq_natAbs_gcd_natAbs]; simp
theorem gcd_abs_right (a b : Int) : Int.gcd a (b.natAbs : Int) = Int.gcd a b := by
 rw [Int.gcd_eq_natAbs_gcd_natAbs, Int.gcd_eq_natAbs_gcd_natAbs]; simp
theorem gcd_zero {a : Int} (ha : 0 ≤ a) : (Int.gcd a 0 : Int) = a := by simp; omega
noncomputable def com (x y w : Int) : Int := (Int.gcd (Int.gcd w x) y : Int) * sgn w
structure IsPt (x y w a b c : Int) : Prop where
 pos : 0 < c
 ex : a * w = x * c
 ey : b * w = y * c
 low : Int.gcd (Int.gcd a b) c = 1
 la : a.natAbs ≤ x.natAbs
 lb : b.natAbs ≤ y.natAbs
 lc : c.natAbs ≤ w.natAbs
structure IsFr (x w a c : Int) : Prop where
 pos : 0 < c
 ex : a * w = x * c
 low : Int.gcd a c = 1
 la : a.natAbs ≤ x.natAbs
 lc : c.natAbs ≤ w.natAbs
theorem com_ne {x y w : Int} (hw : w ≠ 0) : com x y w ≠ 0 := by
 unfold com
 have h1 : Int.gcd (Int.gcd w x) y ≠ 0 := by
  intro h
  have := Int.gcd_eq_zero_iff.mp h
  have h2 : Int.gcd w x = 0 := by have := this.1; omega
  exact hw (Int.gcd_eq_zero_iff.mp h2).1
 intro h
 rcases Int.mul_eq_zero.mp h with h | h
 ·omega
 ·rcases Int.lt_or_gt_of_ne hw with z | z
  ·rw [sgn_neg z] at h; omega
  ·rw [sgn_pos z] at h; omega
theorem com_dvd (x y w : Int) (hw : w ≠ 0) : com x y w ∣ x ∧ com x y w ∣ y ∧ com x y w ∣ w := by
 have key : ∀ z, (Int.gcd (Int.gcd w x) y : Int) ∣ z → com x y w ∣ z := by
  intro z hz
  unfold com
  rcases Int.lt_or_gt_of_ne hw with q | q
  ·rw [sgn_neg q]
   rw [show (Int.gcd (Int.gcd w x) y : Int) * -1 = -(Int.gcd (Int.gcd w x) y : Int) by omega]
   exact Int.neg_dvd.mpr hz
  ·rw [sgn_pos q, Int.mul_one]
   exact hz
 have g1 : (Int.gcd (Int.gcd w x) y : Int) ∣ (Int.gcd w x : Int) := Int.gcd_dvd_left _ _
 exact ⟨key x (Int.dvd_trans g1 (Int.gcd_dvd_right _ _)), key y (Int.gcd_dvd_right _ _), key w (Int.dvd_trans g1 (Int.gcd_dvd_left _ _))⟩
theorem fdiv_exact {a b : Int} (h : b ∣ a) : a.fdiv b = a / b := by
 exact Int.fdiv_eq_ediv_of_dvd h
theorem natAbs_ediv_le (a b : Int) (h : b ∣ a) : (a / b).natAbs ≤ a.natAbs := by
 rw [Int.natAbs_ediv_of_dvd h]
 exact Nat.div_le_self _ _
theorem isPt_of {x y w : Int} (hw : w ≠ 0) : IsPt x y w (x.fdiv (com x y w)) (y.fdiv (com x y w)) (w.fdiv (com x y w)) := by
 obtain ⟨dx, dy, dw⟩ := com_dvd x y w hw
 have hc := com_ne (x := x) (y := y) hw
 rw [fdiv_exact dx, fdiv_exact dy, fdiv_exact dw]
 obtain ⟨a, ha⟩ := dx
 obtain ⟨b, hb⟩ := dy
 obtain ⟨c, hcw⟩ := dw
 have ea : x / com x y w = a := by
  have := Int.mul_ediv_cancel_left a hc
  rw [← ha] at this; exact this
 have eb : y / com x y w = b := by
  have := Int.mul_ediv_cancel_left b hc
  rw [← hb] at this; exact this
 have ec : w / com x y w = c := by
  have := Int.mul_ediv_cancel_left c hc
  rw [← hcw] at this; exact this
 have la := natAbs_ediv_le x _ (⟨a, ha⟩ : com x y w ∣ x)
 have lb := natAbs_ediv_le y _ (⟨b, hb⟩ : com x y w ∣ y)
 have lc := natAbs_ediv_le w _ (⟨c, hcw⟩ : com x y w ∣ w)
 rw [ea] at la ⊢
 rw [eb] at lb ⊢
 rw [ec] at lc ⊢
 generalize hG : com x y w = G at *
 have hgg : (Int.gcd (Int.gcd w x) y : Int) * sgn w = G := by rw [← hG]; rfl
 have gpos : 0 < (Int.gcd (Int.gcd w x) y : Int) := by
  have : (Int.gcd (Int.gcd w x) y : Int) ≠ 0 := by
   intro z
   rw [z, Int.zero_mul] at hgg
   exact hc hgg.symm
  omega
 refine ⟨?_, by rw [ha, hcw]; grind, by rw [hb, hcw]; grind, ?_, la, lb, lc⟩
 ·-- c is above 0
  rcases Int.lt_or_gt_of_ne hw with q | q
  ·rw [sgn_neg q] at hgg
   have hGn : G < 0 := by omega
   have h1 : G * c < 0 := by rw [← hcw]; exact q
   exact Int.pos_of_mul_neg_right h1 hGn
  ·rw [sgn_pos q, Int.mul_one] at hgg
   have h1 : 0 < G * c := by rw [← hcw]; exact q
   exact Int.pos_of_mul_pos_right h1 (by omega)
 ·-- lowest terms
  have e1 : Int.gcd (Int.gcd w x) y = G.natAbs := by
   have := congrArg Int.natAbs hgg
   rw [Int.natAbs_mul] at this
   have h2 : (sgn w).natAbs = 1 := by
    rcases Int.lt_or_gt_of_ne hw with q | q
    ·rw [sgn_neg q]; rfl
    ·rw [sgn_pos q]; rfl
   rw [h2, Nat.mul_one] at this
   simpa using this
  have e2 : Int.gcd (Int.gcd w x) y = G.natAbs * Int.gcd (Int.gcd c a) b := by
   rw [hcw, ha, hb]
   rw [Int.gcd_mul_left]
   have : ((G.natAbs * Int.gcd c a : Nat) : Int).gcd (G * b) = G.natAbs * Int.gcd (Int.gcd c a) b := by
    rw [Int.gcd_eq_natAbs_gcd_natAbs, Int.natAbs_mul]
    simp only [Int.natAbs_natCast]
    rw [Nat.gcd_mul_left, Int.gcd_eq_natAbs_gcd_natAbs (Int.gcd c a : Int) b]
    simp
   exact this
  have gn : 0 < G.natAbs := by omega
  have e3 : Int.gcd (Int.gcd c a) b = 1 := by
   rw [e1] at e2
   have : G.natAbs * 1 = G.natAbs * Int.gcd (Int.gcd c a) b := by omega
   exact (Nat.eq_of_mul_eq_mul_left gn this).symm
  have e4 : Int.gcd (Int.gcd a b) c = Int.gcd (Int.gcd c a) b := by
   rw [Int.gcd_comm (Int.gcd a b : Int) c, Int.gcd_assoc]
  rw [e4, e3]
theorem isFr_of {x w : Int} (hw : w ≠ 0) : IsFr x w (x.fdiv ((Int.gcd w x : Int) * sgn w)) (w.fdiv ((Int.gcd w x : Int) * sgn w)) := by
 have h := isPt_of (x := x) (y := 0) (w := w) hw
 have e : com x 0 w = (Int.gcd w x : Int) * sgn w := by
  unfold com
  simp
 rw [e] at h
 have h0 : (0 : Int).fdiv ((Int.gcd w x : Int) * sgn w) = 0 := Int.zero_fdiv _
 rw [h0] at h
 refine ⟨h.pos, h.ex, ?_, h.la, h.lc⟩
 have := h.low
 rw [Int.gcd_zero, gcd_abs_left] at this
 exact this
end MA
namespace MA
theorem isPt_same {x y w a b c x' y' w' a' b' c' : Int} (h : IsPt x y w a b c) (k : IsPt x' y' w' a' b' c') (hw : w ≠ 0) (hw' : w' ≠ 0) (e1 : x * w' = x' * w) (e2 : y * w' = y' * w) : a = a' ∧ b = b' ∧ c = c' := by
 have f1 : a * c' = a' * c := by
  have h1 := h.ex
  have h2 := k.ex
  have : (w * w') * (a * c' - a' * c) = 0 := by grind
  rcases Int.mul_eq_zero.mp this with z | z
  ·rcases Int.mul_eq_zero.mp z with z | z
   ·exact absurd z hw
   ·exact absurd z hw'
  ·omega
 have f2 : b * c' = b' * c := by
  have h1 := h.ey
  have h2 := k.ey
  have : (w * w') * (b * c' - b' * c) = 0 := by grind
  rcases Int.mul_eq_zero.mp this with z | z
  ·rcases Int.mul_eq_zero.mp z with z | z
   ·exact absurd z hw
   ·exact absurd z hw'
  ·omega
 have dv : ∀ {a b c a' b' c' : Int}, Int.gcd (Int.gcd a b) c = 1 → a * c' = a' * c → b * c' = b' * c → c ∣ c' := by
  intro a b c a' b' c' hl e1 e2
  have d1 : c ∣ a * c' := ⟨a', by rw [e1, Int.mul_comm]⟩
  have d2 : c ∣ b * c' := ⟨b', by rw [e2, Int.mul_comm]⟩
  have d3 : c ∣ (Int.gcd (a * c') (b * c') : Int) := Int.dvd_coe_gcd d1 d2
  rw [Int.gcd_mul_right] at d3
  have d4 : c ∣ ((Int.gcd a b : Int) * (c'.natAbs : Int)) := by
   have := d3
   push_cast at this
   exact this
  have d5 : c ∣ c * (c'.natAbs : Int) := Int.dvd_mul_right _ _
  have d6 : c ∣ (Int.gcd ((Int.gcd a b : Int) * (c'.natAbs : Int)) (c * (c'.natAbs : Int)) : Int) := Int.dvd_coe_gcd d4 d5
  rw [Int.gcd_mul_right, hl] at d6
  simp only [Nat.one_mul, Int.natAbs_natCast] at d6
  exact Int.dvd_natAbs.mp d6
 have g1 : c ∣ c' := dv h.low f1 f2
 have g2 : c' ∣ c := dv k.low f1.symm f2.symm
 have ec : c = c' := Int.dvd_antisymm (by have := h.pos; omega) (by have := k.pos; omega) g1 g2
 subst ec
 have hc := h.pos
 exact ⟨Int.eq_of_mul_eq_mul_right (by omega) f1, Int.eq_of_mul_eq_mul_right (by omega) f2, rfl⟩
theorem isFr_same {x w a c x' w' a' c' : Int} (h : IsFr x w a c) (k : IsFr x' w' a' c') (hw : w ≠ 0) (hw' : w' ≠ 0) (e1 : x * w' = x' * w) : a = a' ∧ c = c' := by
 have p1 : IsPt x 0 w a 0 c := ⟨h.pos, h.ex, by simp, by rw [Int.gcd_zero, gcd_abs_left]; exact h.low, h.la, by simp, h.lc⟩
 have p2 : IsPt x' 0 w' a' 0 c' := ⟨k.pos, k.ex, by simp, by rw [Int.gcd_zero, gcd_abs_left]; exact k.low, k.la, by simp, k.lc⟩
 have := isPt_same p1 p2 hw hw' e1 (by simp)
 exact ⟨this.1, this.2.2⟩
structure IsLn (a b c x y z : Int) : Prop where
 ex : ∃ g : Int, 0 < g ∧ a = g * x ∧ b = g * y ∧ c = g * z ∧ g = (Int.gcd (Int.gcd a b) c : Int)
 low : Int.gcd (Int.gcd x y) z = 1
 la : x.natAbs ≤ a.natAbs
 lb : y.natAbs ≤ b.natAbs
 lc : z.natAbs ≤ c.natAbs
theorem isLn_of {a b c : Int} (h : ¬ (a = 0 ∧ b = 0)) : IsLn a b c (a.fdiv (Int.gcd (Int.gcd a b) c : Int)) (b.fdiv (Int.gcd (Int.gcd a b) c : Int)) (c.fdiv (Int.gcd (Int.gcd a b) c : Int)) ∧ (Int.gcd (Int.gcd a b) c : Int) ≠ 0 := by
 have hne : Int.gcd (Int.gcd a b) c ≠ 0 := by
  intro z
  have z1 := (Int.gcd_eq_zero_iff.mp z).1
  have z2 : Int.gcd a b = 0 := by omega
  exact h (Int.gcd_eq_zero_iff.mp z2)
 have d0 : (Int.gcd (Int.gcd a b) c : Int) ∣ (Int.gcd a b : Int) := Int.gcd_dvd_left _ _
 have da : (Int.gcd (Int.gcd a b) c : Int) ∣ a := Int.dvd_trans d0 (Int.gcd_dvd_left _ _)
 have db : (Int.gcd (Int.gcd a b) c : Int) ∣ b := Int.dvd_trans d0 (Int.gcd_dvd_right _ _)
 have dc : (Int.gcd (Int.gcd a b) c : Int) ∣ c := Int.gcd_dvd_right _ _
 have la := natAbs_ediv_le a _ da
 have lb := natAbs_ediv_le b _ db
 have lc := natAbs_ediv_le c _ dc
 refine ⟨?_, by omega⟩
 rw [fdiv_exact da, fdiv_exact db, fdiv_exact dc]
 generalize hG : (Int.gcd (Int.gcd a b) c : Int) = G at *
 have gp : 0 < G := by omega
 have hG' : Int.gcd (Int.gcd a b) c = G.natAbs := by omega
 have ea : a = G * (a / G) := (Int.mul_ediv_cancel' da).symm
 have eb : b = G * (b / G) := (Int.mul_ediv_cancel' db).symm
 have ec : c = G * (c / G) := (Int.mul_ediv_cancel' dc).symm
 refine ⟨⟨G, gp, ea, eb, ec, hG.symm⟩, ?_, la, lb, lc⟩
 generalize a / G = x at *
 generalize b / G = y at *
 generalize c / G = z at *
 subst ea eb ec
 rw [Int.gcd_mul_left] at hG'
 have e2 : ((G.natAbs * Int.gcd x y : Nat) : Int).gcd (G * z) = G.natAbs * Int.gcd (Int.gcd x y) z := by
  rw [Int.gcd_eq_natAbs_gcd_natAbs, Int.natAbs_mul]
  simp only [Int.natAbs_natCast]
  rw [Nat.gcd_mul_left, Int.gcd_eq_natAbs_gcd_natAbs (Int.gcd x y : Int) z]
  simp
 rw [e2] at hG'
 have : G.natAbs * Int.gcd (Int.gcd x y) z = G.natAbs * 1 := by omega
 exact Nat.eq_of_mul_eq_mul_left (by omega) this
end MA
set_option Elab.async false
set_option linter.all false
namespace MC
open MA
noncomputable abbrev V3 := Int × Int × Int
noncomputable def dt (a b c : V3) : Int := a.1 * (b.2.1 * c.2.2 - b.2.2 * c.2.1) - a.2.1 * (b.1 * c.2.2 - b.2.2 * c.1) + a.2.2 * (b.1 * c.2.1 - b.2.1 * c.1)
noncomputable def ex (m p : V3) : Int := m.1 * p.1 + m.2.1 * p.2.1 - m.2.2 * p.2.2
noncomputable def cb (s : Int) (a : V3) (t : Int) (b : V3) : V3 := (s * a.1 + t * b.1, s * a.2.1 + t * b.2.1, s * a.2.2 + t * b.2.2)
theorem dt_rot (a b c : V3) : dt b c a = dt a b c := by unfold dt; grind
theorem dt_swap (a b c : V3) : dt b a c = - dt a b c := by unfold dt; grind
theorem dt_same (a b : V3) : dt a b a = 0 := by unfold dt; grind
theorem dt_same' (a b : V3) : dt a b b = 0 := by unfold dt; grind
theorem dt_same'' (a b : V3) : dt a a b = 0 := by unfold dt; grind
theorem dt_cb (a b : V3) (s : Int) (c : V3) (t : Int) (d : V3) : dt a b (cb s c t d) = s * dt a b c + t * dt a b d := by unfold dt cb; grind
theorem ex_cb (m : V3) (s : Int) (c : V3) (t : Int) (d : V3) : ex m (cb s c t d) = s * ex m c + t * ex m d := by unfold ex cb; grind
theorem plucker (m a b c d : V3) : dt a b c * ex m d = dt d b c * ex m a + dt a d c * ex m b + dt a b d * ex m c := by unfold dt ex; grind
noncomputable def Sim (q v : V3) : Prop := ∃ s t : Int, 0 < s ∧ 0 < t ∧ q.1 * s = v.1 * t ∧ q.2.1 * s = v.2.1 * t ∧ q.2.2 * s = v.2.2 * t
theorem Sim.dt {q v : V3} (h : Sim q v) (a b : V3) : ∃ s t : Int, 0 < s ∧ 0 < t ∧ dt a b q * s = dt a b v * t := by
 obtain ⟨s, t, hs, ht, e1, e2, e3⟩ := h
 refine ⟨s, t, hs, ht, ?_⟩
 unfold MC.dt
 grind
theorem Sim.ex {q v : V3} (h : Sim q v) (m : V3) : ∃ s t : Int, 0 < s ∧ 0 < t ∧ ex m q * s = ex m v * t := by
 obtain ⟨s, t, hs, ht, e1, e2, e3⟩ := h
 refine ⟨s, t, hs, ht, ?_⟩
 unfold MC.ex
 grind
theorem pos_of {x y s t : Int} (hs : 0 < s) (ht : 0 < t) (e : x * s = y * t) : (0 < x ↔ 0 < y) ∧ (x = 0 ↔ y = 0) ∧ (x < 0 ↔ y < 0) := by
 rcases Int.lt_trichotomy x 0 with h | h | h
 ·have := Int.mul_neg_of_neg_of_pos h hs
  have hy : y < 0 := by
   rcases Int.lt_trichotomy y 0 with q | q | q
   ·exact q
   ·subst q; omega
   ·have := Int.mul_pos q ht; omega
  omega
 ·subst h
  have hy : y = 0 := by
   rcases Int.lt_trichotomy y 0 with q | q | q
   ·have := Int.mul_neg_of_neg_of_pos q ht; omega
   ·exact q
   ·have := Int.mul_pos q ht; omega
  omega
 ·have := Int.mul_pos h hs
  have hy : 0 < y := by
   rcases Int.lt_trichotomy y 0 with q | q | q
   ·have := Int.mul_neg_of_neg_of_pos q ht; omega
   ·subst q; omega
   ·exact q
  omega
theorem Sim.dtp {q v : V3} (h : Sim q v) (a b : V3) : (0 < MC.dt a b q ↔ 0 < MC.dt a b v) := by
 obtain ⟨s, t, hs, ht, e⟩ := h.dt a b
 exact (pos_of hs ht e).1
theorem Sim.exz {q v : V3} (h : Sim q v) (m : V3) : (MC.ex m q = 0 ↔ MC.ex m v = 0) := by
 obtain ⟨s, t, hs, ht, e⟩ := h.ex m
 exact (pos_of hs ht e).2.1
theorem Sim.exn {q v : V3} (h : Sim q v) (m : V3) : (MC.ex m q < 0 ↔ MC.ex m v < 0) := by
 obtain ⟨s, t, hs, ht, e⟩ := h.ex m
 exact (pos_of hs ht e).2.2
theorem sim_pt {x y w a b c : Int} (h : IsPt x y w a b c) (hw : 0 < w) : Sim (a, b, c) (x, y, w) := ⟨w, c, hw, h.pos, h.ex, h.ey, by dsimp only; rw [Int.mul_comm]⟩
theorem sim_ptn {x y w a b c : Int} (h : IsPt x y w a b c) (hw : w < 0) : Sim (a, b, c) (-x, -y, -w) := by
 refine ⟨-w, c, by omega, h.pos, ?_, ?_, ?_⟩
 ·have := h.ex; dsimp only; grind
 ·have := h.ey; dsimp only; grind
 ·dsimp only; grind
noncomputable abbrev Vx := V3 × V3 × Int
noncomputable def rot {α : Type} (l : List α) : List α := l.drop 1 ++ l.take 1
noncomputable def edges (l : List Vx) : List (Vx × Vx) := l.zip (rot l)
structure Edge (l : List Vx) (a b : Vx) : Prop where
 ne : a.1 ≠ b.1
 on1 : ex a.2.1 a.1 = 0
 on2 : ex a.2.1 b.1 = 0
 left : ∀ c ∈ l, c.1 = a.1 ∨ c.1 = b.1 ∨ 0 < dt a.1 b.1 c.1
 back : ∀ c ∈ l, c.1 = a.1 ∨ c.1 = b.1 ∨ ex a.2.1 c.1 < 0
structure Poly (l : List Vx) : Prop where
 three : 3 ≤ l.length
 pos : ∀ v ∈ l, 0 < v.1.2.2
 low : ∀ v ∈ l, Int.gcd (Int.gcd v.1.1 v.1.2.1) v.1.2.2 = 1
 nd : (l.map (·.1)).Nodup
 edge : ∀ e ∈ edges l, Edge l e.1 e.2
theorem edges_rot1 : ∀ l : List Vx, edges (rot l) = rot (edges l)
 | [] => rfl
 | [x] => rfl
 | x :: y :: t => by
  show ((y :: t) ++ [x]).zip ((t ++ [x]) ++ [y]) = ((y :: t).zip (t ++ [x])) ++ [(x, y)]
  rw [List.zip_append (by simp)]
  rfl
theorem mem_rot {α : Type} (l : List α) (a : α) : a ∈ rot l ↔ a ∈ l := by
 unfold rot
 cases l with
 | nil => simp
 | cons x r => simp [or_comm]
noncomputable def rotk {α : Type} (k : Nat) (l : List α) : List α := l.drop k ++ l.take k
theorem rotk_succ {α : Type} (k : Nat) (l : List α) (h : k < l.length) : rotk (k + 1) l = rot (rotk k l) := by
 have e := List.drop_eq_getElem_cons h
 show l.drop (k + 1) ++ l.take (k + 1) = rot (l.drop k ++ l.take k)
 rw [e]
 show l.drop (k + 1) ++ l.take (k + 1) = (l.drop (k + 1) ++ l.take k) ++ [l[k]]
 rw [List.take_succ, List.getElem?_eq_getElem h, List.append_assoc]
 rfl
theorem rotk_all {α : Type} (P : List α → Prop) (l : List α) (h0 : P l) (hs : ∀ m, P m → P (rot m)) : ∀ k, k ≤ l.length → P (rotk k l) := by
 intro k
 induction k with
 | zero => intro _; unfold rotk; simpa using h0
 | succ k ih =>
  intro hk
  rw [rotk_succ k l (by omega)]
  exact hs _ (ih (by omega))
theorem rot_length {α : Type} (l : List α) : (rot l).length = l.length := by
 unfold rot
 cases l with
 | nil => rfl
 | cons x r => simp
theorem rot_map {α β : Type} (f : α → β) (l : List α) : rot (l.map f) = (rot l).map f := by
 unfold rot
 rw [List.map_append, List.map_drop, List.map_take]
theorem rot_nodup {α : Type} (l : List α) (h : l.Nodup) : (rot l).Nodup := by
 unfold rot
 cases l with
 | nil => exact List.nodup_nil
 | cons x r =>
  have := List.nodup_cons.mp h
  show (r ++ [x]).Nodup
  rw [List.nodup_append]
  refine ⟨this.2, by simp, fun a ha b hb e => ?_⟩
  simp only [List.mem_cons, List.not_mem_nil, or_false] at hb
  subst hb
  subst e
  exact this.1 ha
theorem Edge.mem {l m : List Vx} {a b : Vx} (h : Edge l a b) (hm : ∀ c ∈ m, c ∈ l) : Edge m a b := ⟨h.ne, h.on1, h.on2, fun c hc => h.left c (hm c hc), fun c hc => h.back c (hm c hc)⟩
theorem Poly.rot {l : List Vx} (h : Poly l) : Poly (rot l) where
 three := by rw [rot_length]; exact h.three
 pos := fun v hv => h.pos v ((mem_rot l v).mp hv)
 low := fun v hv => h.low v ((mem_rot l v).mp hv)
 nd := by rw [← rot_map]; exact rot_nodup _ h.nd
 edge := fun e he => by
  rw [edges_rot1, mem_rot] at he
  exact (h.edge e he).mem fun c hc => (mem_rot l c).mp hc
theorem Poly.rotk {l : List Vx} (h : Poly l) {k : Nat} (hk : k ≤ l.length) : Poly (rotk k l) := rotk_all Poly l h (fun _ q => q.rot) k hk
theorem edge_in {p s : List Vx} {a b : Vx} : (a, b) ∈ edges (p ++ a :: b :: s) := by
 cases p with
 | nil =>
  show (a, b) ∈ (a :: b :: s).zip ((b :: s) ++ [a])
  simp
 | cons x p =>
  show (a, b) ∈ (x :: (p ++ a :: b :: s)).zip ((p ++ a :: b :: s) ++ [x])
  rw [List.mem_iff_getElem?]
  refine ⟨p.length + 1, ?_⟩
  rw [List.getElem?_zip_eq_some]
  constructor
  ·simp
  ·rw [List.append_assoc, List.getElem?_append_right (by omega)]
   simp
theorem edge_last {m : List Vx} {a b : Vx} : (a, b) ∈ edges (b :: (m ++ [a])) := by
 show (a, b) ∈ (b :: (m ++ [a])).zip ((m ++ [a]) ++ [b])
 rw [List.mem_iff_getElem?]
 refine ⟨m.length + 1, ?_⟩
 rw [List.getElem?_zip_eq_some]
 constructor
 ·simp
 ·rw [List.getElem?_append_right (by simp)]
  simp
theorem edges_cases {l : List Vx} {a b : Vx} (h : (a, b) ∈ edges l) (h2 : 2 ≤ l.length) : (∃ p s, l = p ++ a :: b :: s) ∨ ∃ m, l = b :: (m ++ [a]) := by
 cases l with
 | nil => simp at h2
 | cons x r =>
  rw [List.mem_iff_getElem?] at h
  obtain ⟨i, hi⟩ := h
  have hi' : ((x :: r).zip (r ++ [x]))[i]? = some (a, b) := hi
  rw [List.getElem?_zip_eq_some] at hi'
  obtain ⟨h1, h3⟩ := hi'
  dsimp only at h1 h3
  by_cases hr : i < r.length
  ·left
   rw [List.getElem?_append_left hr] at h3
   refine ⟨(x :: r).take i, r.drop (i + 1), ?_⟩
   have e1 := List.drop_eq_getElem_cons (l := x :: r) (i := i) (by simp; omega)
   have e2 := List.drop_eq_getElem_cons (l := r) (i := i) hr
   obtain ⟨_, q1⟩ := List.getElem?_eq_some_iff.mp h1
   obtain ⟨_, q3⟩ := List.getElem?_eq_some_iff.mp h3
   rw [q1] at e1
   rw [q3] at e2
   have : (x :: r).drop (i + 1) = r.drop i := rfl
   rw [this, e2] at e1
   rw [← e1, List.take_append_drop]
  ·right
   have li := (List.getElem?_eq_some_iff.mp h1).1
   have ei : i = r.length := by simp at li; omega
   subst ei
   rw [List.getElem?_append_right (by omega), Nat.sub_self] at h3
   cases h3
   cases r with
   | nil => simp at h2
   | cons y t =>
    obtain ⟨_, q1⟩ := List.getElem?_eq_some_iff.mp h1
    refine ⟨(y :: t).take t.length, ?_⟩
    congr 1
    have e1 := List.drop_eq_getElem_cons (l := y :: t) (i := t.length) (by simp)
    have e3 : (y :: t)[t.length]'(by simp) = a := by
     have : (b :: y :: t)[(y :: t).length]'(by simp) = (y :: t)[t.length]'(by simp) := rfl
     rw [← this]
     exact q1
    rw [e3] at e1
    have e4 : (y :: t).drop (t.length + 1) = [] := List.drop_eq_nil_of_le (by simp)
    rw [e4] at e1
    rw [← e1, List.take_append_drop]
theorem noAsc {α : Type} (f : α → Int) : ∀ t : List α, (∀ p x y s, t = p ++ x :: y :: s → ¬ (f x ≤ 0 ∧ 0 < f y)) → ∃ D C, t = D ++ C ∧ (∀ d ∈ D, 0 < f d) ∧ ∀ c ∈ C, f c ≤ 0
 | [], _ => ⟨[], [], rfl, by simp, by simp⟩
 | x :: r, h => by
  obtain ⟨D, C, e, hD, hC⟩ := noAsc f r fun p a b s q => h (x :: p) a b s (by rw [q]; rfl)
  by_cases hx : 0 < f x
  ·exact ⟨x :: D, C, by rw [e]; rfl, fun d hd => by
    rcases List.mem_cons.mp hd with rfl | hd
    ·exact hx
    ·exact hD d hd, hC⟩
  ·cases D with
   | nil =>
    refine ⟨[], x :: C, by rw [e]; rfl, by simp, fun c hc => ?_⟩
    rcases List.mem_cons.mp hc with rfl | hc
    ·omega
    ·exact hC c hc
   | cons d D =>
    exact absurd ⟨by omega, hD d (by simp)⟩ (h [] x d (D ++ C) (by rw [e]; rfl))
end MC
set_option Elab.async false
set_option linter.all false
namespace MC
open MA
theorem Edge.left_ge {l : List Vx} {a b c : Vx} (E : Edge l a b) (hc : c ∈ l) : 0 ≤ dt a.1 b.1 c.1 := by
 rcases E.left c hc with e | e | e
 ·rw [e, dt_same]; exact Int.le_refl _
 ·rw [e, dt_same']; exact Int.le_refl _
 ·omega
theorem Edge.back_le {l : List Vx} {a b c : Vx} (E : Edge l a b) (hc : c ∈ l) : ex a.2.1 c.1 ≤ 0 := by
 rcases E.back c hc with e | e | e
 ·rw [e, E.on1]; exact Int.le_refl _
 ·rw [e, E.on2]; exact Int.le_refl _
 ·omega
theorem Edge.left_of {l : List Vx} {a b c : Vx} (E : Edge l a b) (hc : c ∈ l) (h1 : c.1 ≠ a.1) (h2 : c.1 ≠ b.1) : 0 < dt a.1 b.1 c.1 := (E.left c hc).elim (fun q => absurd q h1) fun q => q.elim (fun q => absurd q h2) id
theorem Edge.back_of {l : List Vx} {a b c : Vx} (E : Edge l a b) (hc : c ∈ l) (h1 : c.1 ≠ a.1) (h2 : c.1 ≠ b.1) : ex a.2.1 c.1 < 0 := (E.back c hc).elim (fun q => absurd q h1) fun q => q.elim (fun q => absurd q h2) id
theorem mul_nn {a b : Int} (h1 : 0 ≤ a) (h2 : 0 ≤ b) : 0 ≤ a * b := Int.mul_nonneg h1 h2
theorem mul_np {a b : Int} (h1 : 0 ≤ a) (h2 : b ≤ 0) : a * b ≤ 0 := Int.mul_nonpos_of_nonneg_of_nonpos h1 h2
theorem comb {l : List Vx} {a b c d : Vx} (E : Edge l a b) (hc : c ∈ l) (hd : d ∈ l) {s t : Int} (hs : 0 ≤ s) (ht : 0 ≤ t)
  (hh : (0 < s ∧ c.1 ≠ a.1 ∧ c.1 ≠ b.1) ∨ (0 < t ∧ d.1 ≠ a.1 ∧ d.1 ≠ b.1)) : 0 < dt a.1 b.1 (cb s c.1 t d.1) ∧ ex a.2.1 (cb s c.1 t d.1) < 0 := by
 rw [dt_cb, ex_cb]
 have c1 := mul_nn hs (E.left_ge hc)
 have d1 := mul_nn ht (E.left_ge hd)
 have c2 := mul_np hs (E.back_le hc)
 have d2 := mul_np ht (E.back_le hd)
 rcases hh with ⟨h, n1, n2⟩ | ⟨h, n1, n2⟩
 ·have q1 := Int.mul_pos h (E.left_of hc n1 n2)
  have q2 := Int.mul_neg_of_pos_of_neg h (E.back_of hc n1 n2)
  omega
 ·have q1 := Int.mul_pos h (E.left_of hd n1 n2)
  have q2 := Int.mul_neg_of_pos_of_neg h (E.back_of hd n1 n2)
  omega
theorem dt_cb1 (s : Int) (a : V3) (t : Int) (b x : V3) : dt (cb s a t b) x b = - (s * dt a b x) := by unfold dt cb; grind
theorem dt_cb2 (s : Int) (a : V3) (t : Int) (b x : V3) : dt x (cb s a t b) b = s * dt a b x := by unfold dt cb; grind
theorem ex_cross (m a b : V3) : ex m (cb (ex m b) a (-(ex m a)) b) = 0 := by rw [ex_cb]; grind
theorem up_unique {l : List Vx} (hP : Poly l) {m : V3} {a b a' b' : Vx} (e1 : (a, b) ∈ edges l) (e2 : (a', b') ∈ edges l) (m1 : a ∈ l) (m2 : b ∈ l) (m3 : a' ∈ l) (m4 : b' ∈ l)
  (h1 : ex m a.1 ≤ 0) (h2 : 0 < ex m b.1) (h3 : ex m a'.1 ≤ 0) (h4 : 0 < ex m b'.1) : a.1 = a'.1 := by
 refine Classical.byContradiction fun ne => ?_
 have E1 := hP.edge _ e1
 have E2 := hP.edge _ e2
 dsimp only at E1 E2
 have nb : a'.1 ≠ b.1 := fun q => by rw [q] at h3; omega
 have nb' : a.1 ≠ b'.1 := fun q => by rw [q] at h1; omega
 have D1 := (comb E1 m3 m4 (s := ex m b'.1) (t := -(ex m a'.1)) (by omega) (by omega) (.inl ⟨h4, Ne.symm ne, nb⟩)).1
 have D2 := (comb E2 m1 m2 (s := ex m b.1) (t := -(ex m a.1)) (by omega) (by omega) (.inl ⟨h2, ne, nb'⟩)).1
 have P := plucker m (cb (ex m b.1) a.1 (-(ex m a.1)) b.1) (cb (ex m b'.1) a'.1 (-(ex m a'.1)) b'.1) b.1 b'.1
 rw [ex_cross, ex_cross, Int.mul_zero, Int.mul_zero, Int.zero_add, Int.zero_add, dt_cb1, dt_cb2] at P
 have q1 := Int.mul_pos (Int.mul_pos h2 D1) h4
 have q2 := Int.mul_pos (Int.mul_pos h4 D2) h2
 rw [Int.neg_mul] at P
 omega
noncomputable def pe {α : Type} : List α → List (α × α)
 | [] => []
 | [_] => []
 | x :: y :: r => (x, y) :: pe (y :: r)
theorem pe_app {α : Type} (a : α) (q : List α) : ∀ p : List α, pe (p ++ a :: q) = pe (p ++ [a]) ++ pe (a :: q)
 | [] => by simp [pe]
 | [x] => by simp [pe]
 | x :: y :: p => by
  have := pe_app a q (y :: p)
  simp only [List.cons_append, pe] at this ⊢
  rw [this]
theorem zip_pe {α : Type} : ∀ (r : List α) (x z : α), (x :: r).zip (r ++ [z]) = pe (x :: r ++ [z])
 | [], x, z => rfl
 | y :: r, x, z => by
  have := zip_pe r y z
  simp only [List.cons_append, List.zip_cons_cons, pe] at this ⊢
  rw [this]
theorem edges_pe (x : Vx) (r : List Vx) : edges (x :: r) = pe (x :: r ++ [x]) := zip_pe r x x
theorem rotk_app {α : Type} (u v : List α) : rotk u.length (u ++ v) = v ++ u := by
 unfold rotk
 rw [List.drop_left, List.take_left]
theorem edges_length (l : List Vx) : (edges l).length = l.length := by
 unfold edges
 rw [List.length_zip, rot_length, Nat.min_self]
theorem edges_rotk (l : List Vx) : ∀ k, k ≤ l.length → edges (rotk k l) = rotk k (edges l) := by
 intro k
 induction k with
 | zero => intro _; unfold rotk; simp
 | succ k ih =>
  intro hk
  rw [rotk_succ k l (by omega), edges_rot1, ih (by omega), rotk_succ k (edges l) (by rw [edges_length]; omega)]
noncomputable def Rot {α : Type} (l m : List α) : Prop := ∃ u v, l = u ++ v ∧ m = v ++ u
theorem Rot.refl {α : Type} (l : List α) : Rot l l := ⟨[], l, rfl, by simp⟩
theorem Rot.symm {α : Type} {l m : List α} (h : Rot l m) : Rot m l := by
 obtain ⟨u, v, e1, e2⟩ := h
 exact ⟨v, u, e2, e1⟩
theorem Rot.trans {α : Type} {l m n : List α} (h1 : Rot l m) (h2 : Rot m n) : Rot l n := by
 obtain ⟨u, v, rfl, rfl⟩ := h1
 obtain ⟨p, q, e, rfl⟩ := h2
 rcases List.append_eq_append_iff.mp e with ⟨w, e1, e2⟩ | ⟨w, e1, e2⟩
 ·exact ⟨w, q ++ v, by rw [e2]; simp, by rw [e1]; simp⟩
 ·exact ⟨u ++ p, w, by rw [e1]; simp, by rw [e2]; simp⟩
theorem Rot.of {α : Type} (k : Nat) (l : List α) : Rot l (rotk k l) := ⟨l.take k, l.drop k, (List.take_append_drop k l).symm, rfl⟩
theorem Rot.at {α : Type} {l m : List α} (h : Rot l m) : ∃ k, k ≤ l.length ∧ m = rotk k l := by
 obtain ⟨u, v, rfl, rfl⟩ := h
 exact ⟨u.length, by simp, (rotk_app u v).symm⟩
theorem Rot.poly {l m : List Vx} (h : Rot l m) (hP : Poly l) : Poly m := by
 obtain ⟨k, hk, rfl⟩ := h.at
 exact hP.rotk hk
theorem Rot.mem {α : Type} {l m : List α} (h : Rot l m) (a : α) : a ∈ m ↔ a ∈ l := by
 obtain ⟨u, v, rfl, rfl⟩ := h
 rw [List.mem_append, List.mem_append, or_comm]
theorem Rot.edges {l m : List Vx} (h : Rot l m) : Rot (edges l) (edges m) := by
 obtain ⟨k, hk, rfl⟩ := h.at
 rw [edges_rotk l k hk]
 exact .of k _
theorem Rot.flat {α β : Type} {l m : List α} (h : Rot l m) (f : α → List β) : Rot (l.flatMap f) (m.flatMap f) := by
 obtain ⟨u, v, rfl, rfl⟩ := h
 exact ⟨u.flatMap f, v.flatMap f, by rw [List.flatMap_append], by rw [List.flatMap_append]⟩
theorem mem_of_edge {l : List Vx} {a b : Vx} (h : (a, b) ∈ edges l) : a ∈ l ∧ b ∈ l := by
 have := List.of_mem_zip h
 exact ⟨this.1, (mem_rot l b).mp this.2⟩
theorem canon {l : List Vx} (hP : Poly l) (m : V3) (hp : ∃ v ∈ l, 0 < ex m v.1) (hn : ∃ v ∈ l, ex m v.1 ≤ 0) :
  ∃ C D, Rot l (C ++ D) ∧ C ≠ [] ∧ D ≠ [] ∧ (∀ c ∈ C, ex m c.1 ≤ 0) ∧ ∀ d ∈ D, 0 < ex m d.1 := by
 have up : ∃ a b, (a, b) ∈ edges l ∧ ex m a.1 ≤ 0 ∧ 0 < ex m b.1 := by
  refine Classical.byContradiction fun no => ?_
  obtain ⟨D, C, e, hD, hC⟩ := noAsc (fun v : Vx => ex m v.1) l fun p x y s q hxy => no ⟨x, y, by rw [q]; exact edge_in, hxy⟩
  obtain ⟨v, hv, hv0⟩ := hp
  obtain ⟨w, hw, hw0⟩ := hn
  cases D with
  | nil =>
   rw [e] at hv
   have := hC v (by simpa using hv)
   omega
  | cons d D =>
   cases hC' : C.reverse with
   | nil =>
    have : C = [] := by simpa using hC'
    subst this
    rw [e] at hw
    have := hD w (by simpa using hw)
    omega
   | cons c R =>
    have eC : C = R.reverse ++ [c] := by
     have := congrArg List.reverse hC'
     simpa using this
    refine no ⟨c, d, ?_, hC c (by rw [eC]; simp), hD d (by simp)⟩
    rw [e, eC]
    have := edge_last (m := D ++ R.reverse) (a := c) (b := d)
    simpa using this
 obtain ⟨a, b, hab, ha, hb⟩ := up
 have h2 : 2 ≤ l.length := by have := hP.three; omega
 obtain ⟨r, hr⟩ : ∃ r, Rot l (b :: (r ++ [a])) := by
  rcases edges_cases hab h2 with ⟨p, s, e⟩ | ⟨r, e⟩
  ·exact ⟨s ++ p, p ++ [a], b :: s, by rw [e]; simp, by simp⟩
  ·exact ⟨r, by rw [← e]; exact .refl l⟩
 have hPt := hr.poly hP
 have memt := hr.mem
 obtain ⟨D, C, e, hD, hC⟩ := noAsc (fun v : Vx => ex m v.1) (b :: (r ++ [a])) fun p x y s q hxy => by
  have exy : (x, y) ∈ edges (b :: (r ++ [a])) := by rw [q]; exact edge_in
  have eab : (a, b) ∈ edges (b :: (r ++ [a])) := edge_last
  have u := up_unique hPt (m := m) eab exy (mem_of_edge eab).1 (mem_of_edge eab).2 (mem_of_edge exy).1 (mem_of_edge exy).2 ha hb hxy.1 hxy.2
  have nd := hPt.nd
  rw [q, List.map_append, List.map_cons, List.nodup_append] at nd
  have hx := (List.nodup_cons.mp nd.2.1).1
  apply hx
  have hlast : a ∈ y :: s := by
   have e1 : (p ++ x :: y :: s).getLast? = some a := by
    rw [← q, show b :: (r ++ [a]) = (b :: r) ++ [a] from rfl]
    exact List.getLast?_concat
   rw [List.getLast?_append] at e1
   have e2 : (x :: y :: s).getLast? = (y :: s).getLast? := rfl
   rw [e2] at e1
   cases e3 : (y :: s).getLast? with
   | none => simp at e3
   | some z =>
    rw [e3] at e1
    have : z = a := by simpa using e1
    subst this
    exact List.mem_of_getLast? e3
  rw [← u]
  exact List.mem_map.mpr ⟨a, hlast, rfl⟩
 have hRt : Rot (b :: (r ++ [a])) (C ++ D) := ⟨D, C, e, rfl⟩
 refine ⟨C, D, hr.trans hRt, fun q => ?_, fun q => ?_, hC, hD⟩
 ·subst q
  have : a ∈ D := by
   have : a ∈ b :: (r ++ [a]) := by simp
   rw [e] at this
   simpa using this
  have := hD a this
  omega
 ·subst q
  have : b ∈ C := by
   have : b ∈ b :: (r ++ [a]) := by simp
   rw [e] at this
   simpa using this
  have := hC b this
  omega
end MC
set_option Elab.async false
set_option linter.all false
namespace MC
open MA
noncomputable def crossPt (a b : V3) (h t : Int) : V3 :=
 ((a.1 * t - b.1 * h).fdiv (com (a.1 * t - b.1 * h) (a.2.1 * t - b.2.1 * h) (a.2.2 * t - b.2.2 * h)),
  (a.2.1 * t - b.2.1 * h).fdiv (com (a.1 * t - b.1 * h) (a.2.1 * t - b.2.1 * h) (a.2.2 * t - b.2.2 * h)),
  (a.2.2 * t - b.2.2 * h).fdiv (com (a.1 * t - b.1 * h) (a.2.1 * t - b.2.1 * h) (a.2.2 * t - b.2.2 * h)))
theorem cross_up {a b : V3} {h t : Int} (ha : 0 < a.2.2) (hb : 0 < b.2.2) (h1 : h < 0) (h2 : 0 < t) : IsPt (a.1 * t - b.1 * h) (a.2.1 * t - b.2.1 * h) (a.2.2 * t - b.2.2 * h) (crossPt a b h t).1 (crossPt a b h t).2.1 (crossPt a b h t).2.2 ∧ Sim (crossPt a b h t) (cb t a (-h) b) := by
 have hw : 0 < a.2.2 * t - b.2.2 * h := by
  have q1 := Int.mul_pos ha h2
  have q2 := Int.mul_neg_of_pos_of_neg hb h1
  omega
 have k := isPt_of (x := a.1 * t - b.1 * h) (y := a.2.1 * t - b.2.1 * h) (w := a.2.2 * t - b.2.2 * h) (by omega)
 refine ⟨k, ?_⟩
 have := sim_pt k hw
 rw [show cb t a (-h) b = (a.1 * t - b.1 * h, a.2.1 * t - b.2.1 * h, a.2.2 * t - b.2.2 * h) by unfold cb; refine Prod.ext ?_ (Prod.ext ?_ ?_) <;> (dsimp only; grind)]
 exact this
theorem cross_down {a b : V3} {h t : Int} (ha : 0 < a.2.2) (hb : 0 < b.2.2) (h1 : 0 < h) (h2 : t < 0) : IsPt (a.1 * t - b.1 * h) (a.2.1 * t - b.2.1 * h) (a.2.2 * t - b.2.2 * h) (crossPt a b h t).1 (crossPt a b h t).2.1 (crossPt a b h t).2.2 ∧ Sim (crossPt a b h t) (cb h b (-t) a) := by
 have hw : a.2.2 * t - b.2.2 * h < 0 := by
  have q1 := Int.mul_neg_of_pos_of_neg ha h2
  have q2 := Int.mul_pos hb h1
  omega
 have k := isPt_of (x := a.1 * t - b.1 * h) (y := a.2.1 * t - b.2.1 * h) (w := a.2.2 * t - b.2.2 * h) (by omega)
 refine ⟨k, ?_⟩
 have := sim_ptn k hw
 rw [show cb h b (-t) a = (-(a.1 * t - b.1 * h), -(a.2.1 * t - b.2.1 * h), -(a.2.2 * t - b.2.2 * h)) by unfold cb; refine Prod.ext ?_ (Prod.ext ?_ ?_) <;> (dsimp only; grind)]
 exact this
noncomputable def emit (m : V3) (num : Int) (e : Vx × Vx) : List Vx :=
 (if ex m e.1.1 < 0 ∨ (ex m e.1.1 = 0 ∧ ex m e.2.1 ≤ 0) then [e.1] else if ex m e.1.1 = 0 then [(e.1.1, m, num)] else []) ++
 (if ex m e.1.1 < 0 ∧ 0 < ex m e.2.1 then [(crossPt e.1.1 e.2.1 (ex m e.1.1) (ex m e.2.1), m, num)] else if 0 < ex m e.1.1 ∧ ex m e.2.1 < 0 then [(crossPt e.1.1 e.2.1 (ex m e.1.1) (ex m e.2.1), e.1.2)] else [])
noncomputable def restL (m : V3) (num : Int) (l : List Vx) : List Vx := (edges l).flatMap (emit m num)
theorem flat_neg (m : V3) (num : Int) (a : Vx) : ∀ p : List Vx, (∀ c ∈ p ++ [a], ex m c.1 ≤ 0) → (pe (p ++ [a])).flatMap (emit m num) = p
 | [], _ => rfl
 | [x], h => by
  have h1 := h x (by simp)
  have h2 := h a (by simp)
  simp only [List.cons_append, List.nil_append, pe, List.flatMap_cons, List.flatMap_nil, List.append_nil, emit]
  rw [if_pos (by omega), if_neg (by omega), if_neg (by omega)]
  rfl
 | x :: y :: p, h => by
  have h1 := h x (by simp)
  have h2 := h y (by simp)
  have ih := flat_neg m num a (y :: p) fun c hc => h c (by simp at hc ⊢; right; exact hc)
  simp only [List.cons_append, pe, List.flatMap_cons] at ih ⊢
  rw [ih]
  simp only [emit]
  rw [if_pos (by omega), if_neg (by omega), if_neg (by omega)]
  rfl
theorem flat_pos (m : V3) (num : Int) : ∀ p : List Vx, (∀ c ∈ p, 0 < ex m c.1) → (pe p).flatMap (emit m num) = []
 | [], _ => rfl
 | [x], h => rfl
 | x :: y :: p, h => by
  have h1 := h x (by simp)
  have h2 := h y (by simp)
  have ih := flat_pos m num (y :: p) fun c hc => h c (by simp at hc ⊢; right; exact hc)
  simp only [pe, List.flatMap_cons] at ih ⊢
  rw [ih]
  simp only [emit]
  rw [if_neg (by omega), if_neg (by omega), if_neg (by omega), if_neg (by omega)]
  rfl
noncomputable def tops (m : V3) (num : Int) (k d : Vx) : List Vx := if ex m k.1 < 0 then [k, (crossPt k.1 d.1 (ex m k.1) (ex m d.1), m, num)] else [(k.1, m, num)]
noncomputable def bots (m : V3) (z c : Vx) : List Vx := if ex m c.1 < 0 then [(crossPt z.1 c.1 (ex m z.1) (ex m c.1), z.2)] else []
theorem rest_canon {m : V3} {num : Int} {C1 D2 : List Vx} {C2 D1 : List Vx} {k d c z : Vx} (eC : C1 ++ [k] = c :: C2) (eD : D2 ++ [z] = d :: D1)
  (hC : ∀ x ∈ C1 ++ [k], ex m x.1 ≤ 0) (hD : ∀ x ∈ d :: D1, 0 < ex m x.1) : restL m num ((C1 ++ [k]) ++ (d :: D1)) = C1 ++ (tops m num k d ++ bots m z c) := by
 have hk := hC k (by simp)
 have hd := hD d (by simp)
 have hc := hC c (by rw [eC]; simp)
 have hz := hD z (by rw [← eD]; simp)
 have e1 : edges ((C1 ++ [k]) ++ (d :: D1)) = pe (C1 ++ [k]) ++ ((k, d) :: (pe (d :: D1) ++ [(z, c)])) := by
  rw [eC, List.cons_append, edges_pe]
  have e2 : c :: (C2 ++ d :: D1) ++ [c] = C1 ++ k :: (d :: D1 ++ [c]) := by
   rw [← List.cons_append, ← eC]
   simp
  rw [e2, pe_app, ← eC]
  congr 1
  show (k, d) :: pe (d :: (D1 ++ [c])) = _
  congr 1
  rw [← List.cons_append, ← eD, List.append_assoc]
  show pe (D2 ++ z :: [c]) = _
  rw [pe_app, eD]
  rfl
 unfold restL
 rw [e1, List.flatMap_append, List.flatMap_cons, List.flatMap_append, flat_neg m num k C1 hC, flat_pos m num (d :: D1) hD]
 congr 1
 simp only [List.flatMap_cons, List.flatMap_nil, List.append_nil, List.nil_append]
 congr 1
 ·unfold emit tops
  dsimp only
  by_cases q : ex m k.1 < 0
  ·rw [if_pos (.inl q), if_pos ⟨q, hd⟩, if_pos q]
   rfl
  ·rw [if_neg (by omega), if_pos (by omega), if_neg (by omega), if_neg (by omega), if_neg q]
   rfl
 ·unfold emit bots
  dsimp only
  rw [if_neg (by omega), if_neg (by omega), if_neg (by omega)]
  by_cases q : ex m c.1 < 0
  ·rw [if_pos ⟨hz, q⟩, if_pos q]
   rfl
  ·rw [if_neg (by omega), if_neg q]
   rfl
end MC
set_option Elab.async false
set_option linter.all false
namespace MC
open MA
theorem Edge.congr {l : List Vx} {a b b' : Vx} (h : Edge l a b) (e : b.1 = b'.1) : Edge l a b' := by
 obtain ⟨h1, h2, h3, h4, h5⟩ := h
 rw [e] at h1 h3 h4 h5
 exact ⟨h1, h2, h3, h4, h5⟩
noncomputable def PtOk (a b : Vx) (p : V3) : Prop := p = a.1 ∨ p = b.1 ∨ (0 < dt a.1 b.1 p ∧ ex a.2.1 p < 0)
theorem edge_of {l : List Vx} {a b : Vx} (h1 : a.1 ≠ b.1) (h2 : ex a.2.1 a.1 = 0) (h3 : ex a.2.1 b.1 = 0) (h : ∀ c ∈ l, PtOk a b c.1) : Edge l a b :=
 ⟨h1, h2, h3, fun c hc => (h c hc).imp id (fun q => q.imp id (·.1)), fun c hc => (h c hc).imp id (fun q => q.imp id (·.2))⟩
theorem Edge.ok {l : List Vx} {a b c : Vx} (h : Edge l a b) (hc : c ∈ l) : PtOk a b c.1 := by
 rcases h.left c hc with e | e | e
 ·exact .inl e
 ·exact .inr (.inl e)
 ·rcases h.back c hc with e' | e' | e'
  ·exact .inl e'
  ·exact .inr (.inl e')
  ·exact .inr (.inr ⟨e, e'⟩)
theorem pe_pts {k k' : Vx} (hk : k'.1 = k.1) : ∀ (p : List Vx) (a b : Vx), (a, b) ∈ pe (p ++ [k']) → ∃ b', (a, b') ∈ pe (p ++ [k]) ∧ b'.1 = b.1
 | [], a, b, h => by simp [pe] at h
 | [x], a, b, h => by
  simp only [List.cons_append, List.nil_append, pe, List.mem_cons, List.not_mem_nil, or_false, Prod.mk.injEq] at h ⊢
  obtain ⟨rfl, rfl⟩ := h
  exact ⟨k, ⟨rfl, rfl⟩, hk.symm⟩
 | x :: y :: p, a, b, h => by
  simp only [List.cons_append, pe, List.mem_cons, Prod.mk.injEq] at h ⊢
  rcases h with ⟨rfl, rfl⟩ | h
  ·exact ⟨b, .inl ⟨rfl, rfl⟩, rfl⟩
  ·obtain ⟨b', h1, h2⟩ := pe_pts hk (y :: p) a b h
   exact ⟨b', .inr h1, h2⟩
theorem pe_mem {α : Type} : ∀ (p : List α) (a b : α), (a, b) ∈ pe p → a ∈ p ∧ b ∈ p
 | [], a, b, h => by simp [pe] at h
 | [x], a, b, h => by simp [pe] at h
 | x :: y :: p, a, b, h => by
  simp only [pe, List.mem_cons, Prod.mk.injEq] at h
  rcases h with ⟨rfl, rfl⟩ | h
  ·simp
  ·have := pe_mem (y :: p) a b h
   exact ⟨List.mem_cons_of_mem _ this.1, List.mem_cons_of_mem _ this.2⟩
theorem pe_prefix {α : Type} {p q : List α} {a b : α} (h : (a, b) ∈ pe p) : (a, b) ∈ pe (p ++ q) := by
 cases hp : p.reverse with
 | nil =>
  have : p = [] := by simpa using hp
  subst this
  simp [pe] at h
 | cons x r =>
  have e : p = r.reverse ++ [x] := by
   have := congrArg List.reverse hp
   simpa using this
  rw [e, List.append_assoc, List.singleton_append, pe_app, ← e]
  exact List.mem_append_left _ h
theorem mid_split {C : List Vx} {c0 k c : Vx} {C1 C2 : List Vx} (e1 : C = C1 ++ [k]) (e2 : C = c0 :: C2) (hc : c ∈ C) (n1 : c ≠ c0) (n2 : c ≠ k) : ∃ p a b s, C = p ++ a :: c :: b :: s := by
 obtain ⟨p, s, e⟩ := List.append_of_mem hc
 cases hp : p.reverse with
 | nil =>
  have : p = [] := by simpa using hp
  subst this
  rw [e] at e2
  simp at e2
  exact absurd e2.1 n1
 | cons a r =>
  have ep : p = r.reverse ++ [a] := by
   have := congrArg List.reverse hp
   simpa using this
  cases s with
  | nil =>
   rw [e] at e1
   have := congrArg List.reverse e1
   simp at this
   exact absurd this.1 n2
  | cons b s => exact ⟨r.reverse, a, b, s, by rw [e, ep]; simp⟩
structure Cfg (m : V3) (C1 C2 D1 D2 : List Vx) (k c d z : Vx) : Prop where
 hP : Poly ((C1 ++ [k]) ++ (d :: D1))
 eC : C1 ++ [k] = c :: C2
 eD : D2 ++ [z] = d :: D1
 hC : ∀ x ∈ C1 ++ [k], ex m x.1 ≤ 0
 hD : ∀ x ∈ d :: D1, 0 < ex m x.1
 neg : ∃ x ∈ C1 ++ [k], ex m x.1 < 0
section
variable {m : V3} {num : Int} {C1 C2 D1 D2 : List Vx} {k c d z : Vx}
noncomputable def Xp (m : V3) (k d : Vx) : V3 := if ex m k.1 < 0 then crossPt k.1 d.1 (ex m k.1) (ex m d.1) else k.1
noncomputable def Yp (m : V3) (z c : Vx) : V3 := if ex m c.1 < 0 then crossPt z.1 c.1 (ex m z.1) (ex m c.1) else c.1
namespace Cfg
theorem inC (h : Cfg m C1 C2 D1 D2 k c d z) {x : Vx} (hx : x ∈ C1 ++ [k]) : x ∈ (C1 ++ [k]) ++ (d :: D1) := List.mem_append_left _ hx
theorem inD (h : Cfg m C1 C2 D1 D2 k c d z) {x : Vx} (hx : x ∈ d :: D1) : x ∈ (C1 ++ [k]) ++ (d :: D1) := List.mem_append_right _ hx
theorem kC (h : Cfg m C1 C2 D1 D2 k c d z) : k ∈ C1 ++ [k] := by simp
theorem cC (h : Cfg m C1 C2 D1 D2 k c d z) : c ∈ C1 ++ [k] := by rw [h.eC]; simp
theorem zD (h : Cfg m C1 C2 D1 D2 k c d z) : z ∈ d :: D1 := by rw [← h.eD]; simp
theorem dD (h : Cfg m C1 C2 D1 D2 k c d z) : d ∈ d :: D1 := by simp
theorem ekd (h : Cfg m C1 C2 D1 D2 k c d z) : Edge ((C1 ++ [k]) ++ (d :: D1)) k d := by
 have : (k, d) ∈ edges ((C1 ++ [k]) ++ (d :: D1)) := by
  have := edge_in (p := C1) (s := D1) (a := k) (b := d)
  simpa using this
 exact h.hP.edge _ this
theorem ezc (h : Cfg m C1 C2 D1 D2 k c d z) : Edge ((C1 ++ [k]) ++ (d :: D1)) z c := by
 have : (z, c) ∈ edges ((C1 ++ [k]) ++ (d :: D1)) := by
  rw [h.eC, ← h.eD]
  have := edge_last (m := C2 ++ D2) (a := z) (b := c)
  simpa using this
 exact h.hP.edge _ this
theorem cd (h : Cfg m C1 C2 D1 D2 k c d z) {x y : Vx} (hx : x ∈ C1 ++ [k]) (hy : y ∈ d :: D1) : x.1 ≠ y.1 := fun q => by
 have h1 := h.hC x hx
 have h2 := h.hD y hy
 rw [q] at h1
 omega
theorem inj (h : Cfg m C1 C2 D1 D2 k c d z) {x y : Vx} (hx : x ∈ C1 ++ [k]) (hy : y ∈ C1 ++ [k]) (e : x.1 = y.1) : x = y := by
 have nd := h.hP.nd
 rw [List.map_append, List.nodup_append] at nd
 have nd := nd.1
 generalize C1 ++ [k] = C at hx hy nd
 induction C with
 | nil => simp at hx
 | cons w C ih =>
  rw [List.map_cons, List.nodup_cons] at nd
  rcases List.mem_cons.mp hx with rfl | hx' <;> rcases List.mem_cons.mp hy with rfl | hy'
  ·rfl
  ·exact absurd (List.mem_map.mpr ⟨y, hy', e.symm⟩) nd.1
  ·exact absurd (List.mem_map.mpr ⟨x, hx', e⟩) nd.1
  ·exact ih hx' hy' nd.2
theorem two (h : Cfg m C1 C2 D1 D2 k c d z) (e : c.1 = k.1) : z.1 ≠ d.1 := by
 have ek : c = k := h.inj h.cC h.kC e
 have len := h.hP.three
 have e1 : C1 = [] := by
  cases C1 with
  | nil => rfl
  | cons w C1' =>
   have hc := h.eC
   rw [List.cons_append] at hc
   have hw : w = c := (List.cons.inj hc).1
   have nd := h.hP.nd
   rw [List.map_append, List.nodup_append, List.cons_append, List.map_cons, List.nodup_cons] at nd
   refine absurd ?_ nd.1.1
   rw [hw, e]
   exact List.mem_map.mpr ⟨k, by simp, rfl⟩
 subst e1
 intro q
 have hD2 := h.eD
 cases D1 with
 | nil => simp at len
 | cons y D1' =>
  cases D2 with
  | nil => simp at hD2
  | cons w D2' =>
   rw [List.cons_append] at hD2
   obtain ⟨rfl, e3⟩ := List.cons.inj hD2
   have nd := h.hP.nd
   rw [List.map_append, List.nodup_append, List.map_cons, List.nodup_cons] at nd
   refine absurd ?_ nd.2.1.1
   rw [← e3, ← q]
   exact List.mem_map.mpr ⟨z, by simp, rfl⟩
theorem wk (h : Cfg m C1 C2 D1 D2 k c d z) {x : Vx} (hx : x ∈ (C1 ++ [k]) ++ (d :: D1)) : 0 < x.1.2.2 := h.hP.pos x hx
theorem simX (h : Cfg m C1 C2 D1 D2 k c d z) : Sim (Xp m k d) (cb (ex m d.1) k.1 (-(ex m k.1)) d.1) := by
 unfold Xp
 have hk := h.hC k h.kC
 have hd := h.hD d h.dD
 split
 ·rename_i q
  exact (cross_up (h.wk (h.inC h.kC)) (h.wk (h.inD h.dD)) q hd).2
 ·have e : ex m k.1 = 0 := by omega
  rw [e]
  refine ⟨ex m d.1, 1, hd, by decide, ?_, ?_, ?_⟩ <;> (unfold cb; dsimp only; grind)
theorem simY (h : Cfg m C1 C2 D1 D2 k c d z) : Sim (Yp m z c) (cb (ex m z.1) c.1 (-(ex m c.1)) z.1) := by
 unfold Yp
 have hc := h.hC c h.cC
 have hz := h.hD z h.zD
 split
 ·rename_i q
  exact (cross_down (h.wk (h.inD h.zD)) (h.wk (h.inC h.cC)) hz q).2
 ·have e : ex m c.1 = 0 := by omega
  rw [e]
  refine ⟨ex m z.1, 1, hz, by decide, ?_, ?_, ?_⟩ <;> (unfold cb; dsimp only; grind)
theorem exX (h : Cfg m C1 C2 D1 D2 k c d z) : ex m (Xp m k d) = 0 := (h.simX.exz m).mpr (ex_cross m k.1 d.1)
theorem exY (h : Cfg m C1 C2 D1 D2 k c d z) : ex m (Yp m z c) = 0 := (h.simY.exz m).mpr (ex_cross m c.1 z.1)
theorem okX (h : Cfg m C1 C2 D1 D2 k c d z) {a b : Vx} (ha : a ∈ C1 ++ [k]) (hb : b ∈ C1 ++ [k]) (E : Edge ((C1 ++ [k]) ++ (d :: D1)) a b) : PtOk a b (Xp m k d) := by
 have hk := h.hC k h.kC
 have hd := h.hD d h.dD
 by_cases q : ex m k.1 < 0
 ·have := comb E (h.inC h.kC) (h.inD h.dD) (s := ex m d.1) (t := -(ex m k.1)) (by omega) (by omega) (.inr ⟨by omega, (h.cd ha h.dD).symm, (h.cd hb h.dD).symm⟩)
  exact .inr (.inr ⟨(h.simX.dtp a.1 b.1).mpr this.1, (h.simX.exn a.2.1).mpr this.2⟩)
 ·rw [show Xp m k d = k.1 from if_neg q]
  exact E.ok (h.inC h.kC)
theorem okY (h : Cfg m C1 C2 D1 D2 k c d z) {a b : Vx} (ha : a ∈ C1 ++ [k]) (hb : b ∈ C1 ++ [k]) (E : Edge ((C1 ++ [k]) ++ (d :: D1)) a b) : PtOk a b (Yp m z c) := by
 have hc := h.hC c h.cC
 have hz := h.hD z h.zD
 by_cases q : ex m c.1 < 0
 ·have := comb E (h.inC h.cC) (h.inD h.zD) (s := ex m z.1) (t := -(ex m c.1)) (by omega) (by omega) (.inr ⟨by omega, (h.cd ha h.zD).symm, (h.cd hb h.zD).symm⟩)
  exact .inr (.inr ⟨(h.simY.dtp a.1 b.1).mpr this.1, (h.simY.exn a.2.1).mpr this.2⟩)
 ·rw [show Yp m z c = c.1 from if_neg q]
  exact E.ok (h.inC h.cC)
theorem kdY (h : Cfg m C1 C2 D1 D2 k c d z) (q : ex m k.1 < 0 ∨ c.1 ≠ k.1) : 0 < dt k.1 d.1 (Yp m z c) ∧ ex k.2.1 (Yp m z c) < 0 := by
 have hc := h.hC c h.cC
 have hz := h.hD z h.zD
 have cases : (0 < ex m z.1 ∧ c.1 ≠ k.1 ∧ c.1 ≠ d.1) ∨ (0 < -(ex m c.1) ∧ z.1 ≠ k.1 ∧ z.1 ≠ d.1) := by
  by_cases e : c.1 = k.1
  ·right
   refine ⟨?_, (h.cd h.kC h.zD).symm, h.two e⟩
   rcases q with q | q
   ·rw [e]; omega
   ·exact absurd e q
  ·exact .inl ⟨hz, e, h.cd h.cC h.dD⟩
 have := comb h.ekd (h.inC h.cC) (h.inD h.zD) (s := ex m z.1) (t := -(ex m c.1)) (by omega) (by omega) cases
 exact ⟨(h.simY.dtp k.1 d.1).mpr this.1, (h.simY.exn k.2.1).mpr this.2⟩
theorem zcX (h : Cfg m C1 C2 D1 D2 k c d z) (q : ex m c.1 < 0 ∨ c.1 ≠ k.1) : 0 < dt z.1 c.1 (Xp m k d) ∧ ex z.2.1 (Xp m k d) < 0 := by
 have hk := h.hC k h.kC
 have hd := h.hD d h.dD
 have cases : (0 < ex m d.1 ∧ k.1 ≠ z.1 ∧ k.1 ≠ c.1) ∨ (0 < -(ex m k.1) ∧ d.1 ≠ z.1 ∧ d.1 ≠ c.1) := by
  by_cases e : c.1 = k.1
  ·right
   refine ⟨?_, (h.two e).symm, (h.cd h.cC h.dD).symm⟩
   rcases q with q | q
   ·rw [← e]; omega
   ·exact absurd e q
  ·exact .inl ⟨hd, h.cd h.kC h.zD, Ne.symm e⟩
 have := comb h.ezc (h.inC h.kC) (h.inD h.dD) (s := ex m d.1) (t := -(ex m k.1)) (by omega) (by omega) cases
 exact ⟨(h.simX.dtp z.1 c.1).mpr this.1, (h.simX.exn z.2.1).mpr this.2⟩
theorem ends (h : Cfg m C1 C2 D1 D2 k c d z) : ex m k.1 < 0 ∨ c.1 ≠ k.1 := by
 by_cases e : c.1 = k.1
 ·left
  have ek : c = k := h.inj h.cC h.kC e
  have e1 : C1 = [] := by
   cases C1 with
   | nil => rfl
   | cons w C1' =>
    have hc := h.eC
    rw [List.cons_append] at hc
    have hw : w = c := (List.cons.inj hc).1
    have nd := h.hP.nd
    rw [List.map_append, List.nodup_append, List.cons_append, List.map_cons, List.nodup_cons] at nd
    refine absurd ?_ nd.1.1
    rw [hw, e]
    exact List.mem_map.mpr ⟨k, by simp, rfl⟩
  obtain ⟨x, hx, hx0⟩ := h.neg
  subst e1
  obtain rfl : x = k := by simpa using hx
  exact hx0
 ·exact .inr e
theorem ends' (h : Cfg m C1 C2 D1 D2 k c d z) : ex m c.1 < 0 ∨ c.1 ≠ k.1 := by
 rcases h.ends with q | q
 ·by_cases e : c.1 = k.1
  ·exact .inl (by rw [e]; exact q)
  ·exact .inr e
 ·exact .inr q
theorem xd (h : Cfg m C1 C2 D1 D2 k c d z) : dt (Xp m k d) (Yp m z c) d.1 < 0 := by
 have hd := h.hD d h.dD
 have q := (h.kdY h.ends).1
 -- X is a sum of k and d
 obtain ⟨s, t, hs, ht, e1, e2, e3⟩ := h.simX
 have e : dt (Xp m k d) (Yp m z c) d.1 * s = - (ex m d.1 * dt k.1 d.1 (Yp m z c)) * t := by
  rw [← dt_cb1 (ex m d.1) k.1 (-(ex m k.1)) d.1 (Yp m z c)]
  generalize cb (ex m d.1) k.1 (-(ex m k.1)) d.1 = v at e1 e2 e3
  generalize Xp m k d = w at e1 e2 e3
  unfold dt
  grind
 have q2 := Int.mul_pos hd q
 exact (pos_of hs ht e).2.2.mpr (by omega)
theorem xy (h : Cfg m C1 C2 D1 D2 k c d z) : Xp m k d ≠ Yp m z c := fun e => by
 have := h.xd
 rw [e, dt_same''] at this
 omega
theorem newLeft (h : Cfg m C1 C2 D1 D2 k c d z) {p : V3} (hp : ex m p < 0) : 0 < dt (Xp m k d) (Yp m z c) p := by
 have hd := h.hD d h.dD
 have P := plucker m (Xp m k d) (Yp m z c) p d.1
 rw [h.exX, h.exY, Int.mul_zero, Int.mul_zero, Int.zero_add, Int.zero_add] at P
 have q := Int.mul_pos_of_neg_of_neg h.xd hp
 rw [← P] at q
 rcases Int.lt_trichotomy (dt (Xp m k d) (Yp m z c) p) 0 with r | r | r
 ·have := Int.mul_neg_of_neg_of_pos r hd
  omega
 ·rw [r, Int.zero_mul] at q
  omega
 ·exact r
theorem zero (h : Cfg m C1 C2 D1 D2 k c d z) {x : Vx} (hx : x ∈ C1 ++ [k]) (h0 : ex m x.1 = 0) : x = c ∨ x = k := by
 refine Classical.byContradiction fun no => ?_
 have n1 : x ≠ c := fun q => no (.inl q)
 have n2 : x ≠ k := fun q => no (.inr q)
 obtain ⟨p, a, b, s, e⟩ := mid_split (C := C1 ++ [k]) rfl h.eC hx n1 n2
 have l1 : (a, x) ∈ edges ((C1 ++ [k]) ++ (d :: D1)) := by
  rw [e]
  have := edge_in (p := p) (s := b :: s ++ (d :: D1)) (a := a) (b := x)
  simpa using this
 have l2 : (x, b) ∈ edges ((C1 ++ [k]) ++ (d :: D1)) := by
  rw [e]
  have := edge_in (p := p ++ [a]) (s := s ++ (d :: D1)) (a := x) (b := b)
  simpa using this
 have E1 := h.hP.edge _ l1
 have E2 := h.hP.edge _ l2
 dsimp only at E1 E2
 have ma : a ∈ C1 ++ [k] := by rw [e]; simp
 have mb : b ∈ C1 ++ [k] := by rw [e]; simp
 have nd := h.hP.nd
 rw [List.map_append, List.nodup_append, e, List.map_append, List.map_cons, List.map_cons, List.map_cons, List.nodup_append, List.nodup_cons, List.nodup_cons] at nd
 have nab : b.1 ≠ a.1 := fun q => nd.1.2.1.1 (by rw [← q]; simp)
 have nxb : b.1 ≠ x.1 := fun q => nd.1.2.1.2.1 (by rw [← q]; simp)
 have A1 := E1.left_of (h.inC mb) nab nxb
 have A2 := E1.left_of (h.inD h.dD) (h.cd ma h.dD).symm (h.cd hx h.dD).symm
 have A3 := E2.left_of (h.inD h.dD) (h.cd hx h.dD).symm (h.cd mb h.dD).symm
 have P := plucker m a.1 x.1 b.1 d.1
 rw [h0, Int.mul_zero, Int.add_zero, ← dt_rot d.1 x.1 b.1] at P
 have hd := h.hD d h.dD
 have q1 := Int.mul_pos A1 hd
 have q2 := mul_np (Int.le_of_lt A3) (h.hC a ma)
 have q3 := mul_np (Int.le_of_lt A2) (h.hC b mb)
 omega
end Cfg
end
end MC
set_option Elab.async false
set_option linter.all false
namespace MC
open MA
namespace Cfg
variable {m : V3} {num : Int} {C1 C2 D1 D2 : List Vx} {k c d z : Vx}
theorem pts (h : Cfg m C1 C2 D1 D2 k c d z) {v : Vx} (hv : v ∈ C1 ++ (tops m num k d ++ bots m z c)) : (∃ x ∈ C1 ++ [k], v.1 = x.1) ∨ v.1 = Xp m k d ∨ v.1 = Yp m z c := by
 rcases List.mem_append.mp hv with q | q
 ·exact .inl ⟨v, List.mem_append_left _ q, rfl⟩
 ·rcases List.mem_append.mp q with q | q
  ·unfold tops at q
   by_cases e : ex m k.1 < 0
   ·rw [if_pos e] at q
    simp only [List.mem_cons, List.not_mem_nil, or_false] at q
    rcases q with rfl | rfl
    ·exact .inl ⟨v, by simp, rfl⟩
    ·exact .inr (.inl (by unfold Xp; rw [if_pos e]))
   ·rw [if_neg e] at q
    obtain rfl : v = (k.1, m, num) := by simpa using q
    exact .inl ⟨k, by simp, rfl⟩
  ·unfold bots at q
   by_cases e : ex m c.1 < 0
   ·rw [if_pos e] at q
    obtain rfl : v = (crossPt z.1 c.1 (ex m z.1) (ex m c.1), z.2) := by simpa using q
    exact .inr (.inr (by unfold Yp; rw [if_pos e]))
   ·rw [if_neg e] at q
    simp at q
theorem edge_of3 (h : Cfg m C1 C2 D1 D2 k c d z) {a b : Vx} (h1 : a.1 ≠ b.1) (h2 : ex a.2.1 a.1 = 0) (h3 : ex a.2.1 b.1 = 0) (hC : ∀ x ∈ C1 ++ [k], PtOk a b x.1) (hX : PtOk a b (Xp m k d)) (hY : PtOk a b (Yp m z c)) :
  Edge (C1 ++ (tops m num k d ++ bots m z c)) a b := edge_of h1 h2 h3 fun v hv => by
 rcases h.pts hv with ⟨x, hx, e⟩ | e | e
 ·rw [e]; exact hC x hx
 ·rw [e]; exact hX
 ·rw [e]; exact hY
theorem eOld (h : Cfg m C1 C2 D1 D2 k c d z) {a b : Vx} (ha : a ∈ C1 ++ [k]) (hb : b ∈ C1 ++ [k]) (E : Edge ((C1 ++ [k]) ++ (d :: D1)) a b) : Edge (C1 ++ (tops m num k d ++ bots m z c)) a b :=
 h.edge_of3 E.ne E.on1 E.on2 (fun x hx => E.ok (h.inC hx)) (h.okX ha hb E) (h.okY ha hb E)
theorem Xne (h : Cfg m C1 C2 D1 D2 k c d z) (q : ex m k.1 < 0) {x : Vx} (hx : x ∈ C1 ++ [k]) : x.1 ≠ Xp m k d := fun e => by
 have h0 : ex m x.1 = 0 := by rw [e]; exact h.exX
 rcases h.zero hx h0 with rfl | rfl
 ·have : Yp m z x = x.1 := if_neg (by omega)
  exact h.xy (by rw [this, e])
 ·omega
theorem Yne (h : Cfg m C1 C2 D1 D2 k c d z) (q : ex m c.1 < 0) {x : Vx} (hx : x ∈ C1 ++ [k]) : x.1 ≠ Yp m z c := fun e => by
 have h0 : ex m x.1 = 0 := by rw [e]; exact h.exY
 rcases h.zero hx h0 with rfl | rfl
 ·omega
 ·have : Xp m x d = x.1 := if_neg (by omega)
  exact h.xy (by rw [this, e])
theorem eKX (h : Cfg m C1 C2 D1 D2 k c d z) (q : ex m k.1 < 0) (b : Vx) (hb : b.1 = Xp m k d) : Edge (C1 ++ (tops m num k d ++ bots m z c)) k b := by
 have hd := h.hD d h.dD
 have E := h.ekd
 obtain ⟨s, t, hs, ht, e1, e2, e3⟩ := h.simX
 have key : ∀ p : V3, 0 < dt k.1 d.1 p → 0 < dt k.1 (Xp m k d) p := by
  intro p hp
  have e : dt k.1 (Xp m k d) p * s = -(ex m k.1) * dt k.1 d.1 p * t := by
   generalize Xp m k d = w at e1 e2 e3
   unfold cb at e1 e2 e3
   dsimp only at e1 e2 e3
   unfold dt
   grind
  have : 0 < -(ex m k.1) * dt k.1 d.1 p := Int.mul_pos (by omega) hp
  exact (pos_of hs ht e).1.mpr this
 have on : ex k.2.1 (Xp m k d) = 0 := (h.simX.exz k.2.1).mpr (by rw [ex_cb, E.on1, E.on2]; simp)
 refine Edge.congr (b := (Xp m k d, m, num)) ?_ hb.symm
 refine h.edge_of3 (h.Xne q h.kC) E.on1 on (fun x hx => ?_) (.inr (.inl rfl)) ?_
 ·by_cases e : x.1 = k.1
  ·exact .inl e
  ·exact .inr (.inr ⟨key _ (E.left_of (h.inC hx) e (h.cd hx h.dD)), E.back_of (h.inC hx) e (h.cd hx h.dD)⟩)
 ·exact .inr (.inr ⟨key _ (h.kdY h.ends).1, (h.kdY h.ends).2⟩)
theorem eXY (h : Cfg m C1 C2 D1 D2 k c d z) (a b : Vx) (ha : a.1 = Xp m k d) (ha' : a.2.1 = m) (hb : b.1 = Yp m z c) : Edge (C1 ++ (tops m num k d ++ bots m z c)) a b := by
 refine h.edge_of3 (by rw [ha, hb]; exact h.xy) (by rw [ha, ha']; exact h.exX) (by rw [hb, ha']; exact h.exY) (fun x hx => ?_) (.inl ha.symm) (.inr (.inl hb.symm))
 by_cases q : ex m x.1 < 0
 ·exact .inr (.inr ⟨by rw [ha, hb]; exact h.newLeft q, by rw [ha']; exact q⟩)
 ·have h0 : ex m x.1 = 0 := by have := h.hC x hx; omega
  rcases h.zero hx h0 with rfl | rfl
  ·exact .inr (.inl (by rw [hb]; unfold Yp; rw [if_neg q]))
  ·exact .inl (by rw [ha]; unfold Xp; rw [if_neg q])
theorem eYC (h : Cfg m C1 C2 D1 D2 k c d z) (q : ex m c.1 < 0) (a b : Vx) (ha : a.1 = Yp m z c) (ha' : a.2.1 = z.2.1) (hb : b.1 = c.1) : Edge (C1 ++ (tops m num k d ++ bots m z c)) a b := by
 have hz := h.hD z h.zD
 have E := h.ezc
 obtain ⟨s, t, hs, ht, e1, e2, e3⟩ := h.simY
 have key : ∀ p : V3, 0 < dt z.1 c.1 p → 0 < dt (Yp m z c) c.1 p := by
  intro p hp
  have e : dt (Yp m z c) c.1 p * s = -(ex m c.1) * dt z.1 c.1 p * t := by
   generalize Yp m z c = w at e1 e2 e3
   unfold cb at e1 e2 e3
   dsimp only at e1 e2 e3
   unfold dt
   grind
  have : 0 < -(ex m c.1) * dt z.1 c.1 p := Int.mul_pos (by omega) hp
  exact (pos_of hs ht e).1.mpr this
 have on : ex z.2.1 (Yp m z c) = 0 := (h.simY.exz z.2.1).mpr (by rw [ex_cb, E.on1, E.on2]; simp)
 refine h.edge_of3 (by rw [ha, hb]; exact (h.Yne q h.cC).symm) (by rw [ha, ha']; exact on) (by rw [hb, ha']; exact E.on2) (fun x hx => ?_) ?_ (.inl ha.symm)
 ·by_cases e : x.1 = c.1
  ·exact .inr (.inl (by rw [e, hb]))
  ·exact .inr (.inr ⟨by rw [ha, hb]; exact key _ (E.left_of (h.inC hx) (h.cd hx h.zD) e), by rw [ha']; exact E.back_of (h.inC hx) (h.cd hx h.zD) e⟩)
 ·exact .inr (.inr ⟨by rw [ha, hb]; exact key _ (h.zcX h.ends').1, by rw [ha']; exact (h.zcX h.ends').2⟩)
theorem len (h : Cfg m C1 C2 D1 D2 k c d z) : 3 ≤ (C1 ++ (tops m num k d ++ bots m z c)).length := by
 have hk := h.hC k h.kC
 have hc := h.hC c h.cC
 rw [List.length_append, List.length_append]
 unfold tops bots
 cases C1 with
 | nil =>
  have e : k = c := by have := h.eC; simp at this; exact this.1
  obtain ⟨x, hx, hx0⟩ := h.neg
  obtain rfl : x = k := by simpa using hx
  rw [if_pos hx0, ← e, if_pos hx0]
  simp
 | cons w C1' =>
  cases C1' with
  | nil =>
   have e : w = c := by have := h.eC; simp at this; exact this.1
   obtain ⟨x, hx, hx0⟩ := h.neg
   simp only [List.cons_append, List.nil_append, List.mem_cons, List.not_mem_nil, or_false] at hx
   rcases hx with rfl | rfl
   ·rw [← e, if_pos hx0]
    split <;> simp
   ·rw [if_pos hx0]
    split <;> simp
  | cons w' C1'' =>
   simp only [List.length_cons]
   split <;> simp <;> omega
theorem nodup_snoc {α : Type} {l : List α} {a : α} (h : l.Nodup) (n : a ∉ l) : (l ++ [a]).Nodup := by
 rw [List.nodup_append]
 refine ⟨h, by simp, fun x hx y hy e => ?_⟩
 obtain rfl : y = a := by simpa using hy
 exact n (e ▸ hx)
theorem ndAll (h : Cfg m C1 C2 D1 D2 k c d z) : ((C1 ++ (tops m num k d ++ bots m z c)).map (·.1)).Nodup := by
 have nd := h.hP.nd
 rw [List.map_append, List.nodup_append] at nd
 have n0 := nd.1
 have e1 : (C1 ++ (tops m num k d ++ bots m z c)).map (·.1) = ((C1 ++ [k]).map (·.1) ++ (if ex m k.1 < 0 then [Xp m k d] else [])) ++ (if ex m c.1 < 0 then [Yp m z c] else []) := by
  unfold tops bots Xp Yp
  by_cases q1 : ex m k.1 < 0 <;> by_cases q2 : ex m c.1 < 0 <;> simp [q1, q2]
 rw [e1]
 have n1 : ((C1 ++ [k]).map (·.1) ++ (if ex m k.1 < 0 then [Xp m k d] else [])).Nodup := by
  by_cases q : ex m k.1 < 0
  ·rw [if_pos q]
   refine nodup_snoc n0 fun hm => ?_
   obtain ⟨x, hx, e⟩ := List.mem_map.mp hm
   exact h.Xne q hx e
  ·rw [if_neg q, List.append_nil]
   exact n0
 by_cases q : ex m c.1 < 0
 ·rw [if_pos q]
  refine nodup_snoc n1 fun hm => ?_
  rcases List.mem_append.mp hm with hm | hm
  ·obtain ⟨x, hx, e⟩ := List.mem_map.mp hm
   exact h.Yne q hx e
  ·by_cases q' : ex m k.1 < 0
   ·rw [if_pos q'] at hm
    have e : Yp m z c = Xp m k d := by simpa using hm
    exact h.xy e.symm
   ·rw [if_neg q'] at hm
    simp at hm
 ·rw [if_neg q, List.append_nil]
  exact n1
theorem lowX (h : Cfg m C1 C2 D1 D2 k c d z) (q : ex m k.1 < 0) : 0 < (Xp m k d).2.2 ∧ Int.gcd (Int.gcd (Xp m k d).1 (Xp m k d).2.1) (Xp m k d).2.2 = 1 := by
 have := (cross_up (h.wk (h.inC h.kC)) (h.wk (h.inD h.dD)) q (h.hD d h.dD)).1
 unfold Xp
 rw [if_pos q]
 exact ⟨this.pos, this.low⟩
theorem lowY (h : Cfg m C1 C2 D1 D2 k c d z) (q : ex m c.1 < 0) : 0 < (Yp m z c).2.2 ∧ Int.gcd (Int.gcd (Yp m z c).1 (Yp m z c).2.1) (Yp m z c).2.2 = 1 := by
 have := (cross_down (h.wk (h.inD h.zD)) (h.wk (h.inC h.cC)) (h.hD z h.zD) q).1
 unfold Yp
 rw [if_pos q]
 exact ⟨this.pos, this.low⟩
theorem low3 (h : Cfg m C1 C2 D1 D2 k c d z) {v : Vx} (hv : v ∈ C1 ++ (tops m num k d ++ bots m z c)) : 0 < v.1.2.2 ∧ Int.gcd (Int.gcd v.1.1 v.1.2.1) v.1.2.2 = 1 := by
 rcases h.pts hv with ⟨x, hx, e⟩ | e | e
 ·rw [e]; exact ⟨h.hP.pos x (h.inC hx), h.hP.low x (h.inC hx)⟩
 ·rw [e]
  by_cases q : ex m k.1 < 0
  ·exact h.lowX q
  ·rw [show Xp m k d = k.1 from if_neg q]
   exact ⟨h.hP.pos k (h.inC h.kC), h.hP.low k (h.inC h.kC)⟩
 ·rw [e]
  by_cases q : ex m c.1 < 0
  ·exact h.lowY q
  ·rw [show Yp m z c = c.1 from if_neg q]
   exact ⟨h.hP.pos c (h.inC h.cC), h.hP.low c (h.inC h.cC)⟩
theorem poly (h : Cfg m C1 C2 D1 D2 k c d z) : Poly (C1 ++ (tops m num k d ++ bots m z c)) where
 three := h.len
 pos := fun v hv => (h.low3 hv).1
 low := fun v hv => (h.low3 hv).2
 nd := h.ndAll
 edge := fun e he => by
  obtain ⟨a, b⟩ := e
  -- the head of the list has the point of c
  obtain ⟨t0, T, eT, ht0⟩ : ∃ t0 T, tops m num k d ++ bots m z c = t0 :: T ∧ t0.1 = k.1 := by
   unfold tops
   split
   ·exact ⟨_, _, rfl, rfl⟩
   ·exact ⟨_, _, rfl, rfl⟩
  obtain ⟨hd0, R, eR, hhd⟩ : ∃ hd0 R, C1 ++ (t0 :: T) = hd0 :: R ∧ hd0.1 = c.1 := by
   cases C1 with
   | nil =>
    refine ⟨t0, T, rfl, ?_⟩
    have : k = c := by have := h.eC; simp at this; exact this.1
    rw [ht0, this]
   | cons w C1' =>
    refine ⟨w, C1' ++ (t0 :: T), rfl, ?_⟩
    have := h.eC
    rw [List.cons_append] at this
    rw [(List.cons.inj this).1]
  rw [eT, eR, edges_pe, ← eR] at he
  have he : (a, b) ∈ pe (C1 ++ t0 :: (T ++ [hd0])) := by simpa using he
  rw [pe_app] at he
  rcases List.mem_append.mp he with q | q
  ·obtain ⟨b', hb', eb⟩ := pe_pts ht0 C1 a b q
   have m2 := pe_mem _ _ _ hb'
   have E : Edge ((C1 ++ [k]) ++ (d :: D1)) a b' := by
    have : (a, b') ∈ edges ((C1 ++ [k]) ++ (d :: D1)) := by
     rw [h.eC, List.cons_append, edges_pe, ← List.cons_append, ← h.eC, List.append_assoc]
     exact pe_prefix hb'
    exact h.hP.edge _ this
   exact (h.eOld m2.1 m2.2 E).congr eb
  ·unfold tops bots at eT
   by_cases q1 : ex m k.1 < 0 <;> by_cases q2 : ex m c.1 < 0
   ·rw [if_pos q1, if_pos q2] at eT
    simp only [List.cons_append, List.nil_append, List.append_nil, List.cons.injEq] at eT
    obtain ⟨rfl, rfl⟩ := eT
    simp only [List.cons_append, List.nil_append, pe, List.mem_cons, List.not_mem_nil, or_false, Prod.mk.injEq] at q
    rcases q with ⟨rfl, rfl⟩ | ⟨rfl, rfl⟩ | ⟨rfl, rfl⟩
    ·exact h.eKX q1 _ (by unfold Xp; rw [if_pos q1])
    ·exact h.eXY _ _ (by unfold Xp; rw [if_pos q1]) rfl (by unfold Yp; rw [if_pos q2])
    ·exact h.eYC q2 _ _ (by unfold Yp; rw [if_pos q2]) rfl hhd
   ·rw [if_pos q1, if_neg q2] at eT
    simp only [List.cons_append, List.nil_append, List.append_nil, List.cons.injEq] at eT
    obtain ⟨rfl, rfl⟩ := eT
    simp only [List.cons_append, List.nil_append, List.append_nil, pe, List.mem_cons, List.not_mem_nil, or_false, Prod.mk.injEq] at q
    rcases q with ⟨rfl, rfl⟩ | ⟨rfl, rfl⟩
    ·exact h.eKX q1 _ (by unfold Xp; rw [if_pos q1])
    ·exact h.eXY _ _ (by unfold Xp; rw [if_pos q1]) rfl (by unfold Yp; rw [if_neg q2]; exact hhd)
   ·rw [if_neg q1, if_pos q2] at eT
    simp only [List.cons_append, List.nil_append, List.append_nil, List.cons.injEq] at eT
    obtain ⟨rfl, rfl⟩ := eT
    simp only [List.cons_append, List.nil_append, pe, List.mem_cons, List.not_mem_nil, or_false, Prod.mk.injEq] at q
    rcases q with ⟨rfl, rfl⟩ | ⟨rfl, rfl⟩
    ·exact h.eXY _ _ (by unfold Xp; rw [if_neg q1]) rfl (by unfold Yp; rw [if_pos q2])
    ·exact h.eYC q2 _ _ (by unfold Yp; rw [if_pos q2]) rfl hhd
   ·rw [if_neg q1, if_neg q2] at eT
    simp only [List.cons_append, List.nil_append, List.append_nil, List.cons.injEq] at eT
    obtain ⟨rfl, rfl⟩ := eT
    simp only [List.cons_append, List.nil_append, List.append_nil, pe, List.mem_cons, List.not_mem_nil, or_false, Prod.mk.injEq] at q
    obtain ⟨rfl, rfl⟩ := q
    exact h.eXY _ _ (by unfold Xp; rw [if_neg q1]) rfl (by unfold Yp; rw [if_neg q2]; exact hhd)
end Cfg
theorem cut_poly {l : List Vx} (hP : Poly l) (m : V3) (num : Int) (hp : ∃ v ∈ l, 0 < ex m v.1) (hn : ∃ v ∈ l, ex m v.1 < 0) : Poly (restL m num l) := by
 obtain ⟨C, D, hR, nC, nD, hC, hD⟩ := canon hP m hp (by obtain ⟨v, hv, q⟩ := hn; exact ⟨v, hv, by omega⟩)
 obtain ⟨c, C2, eC⟩ : ∃ c C2, C = c :: C2 := by cases C with | nil => exact absurd rfl nC | cons c C2 => exact ⟨c, C2, rfl⟩
 obtain ⟨d, D1, eD⟩ : ∃ d D1, D = d :: D1 := by cases D with | nil => exact absurd rfl nD | cons c C2 => exact ⟨c, C2, rfl⟩
 obtain ⟨C1, k, eC'⟩ : ∃ C1 k, C = C1 ++ [k] := ⟨C.dropLast, C.getLast nC, (List.dropLast_concat_getLast nC).symm⟩
 obtain ⟨D2, z, eD'⟩ : ∃ D2 z, D = D2 ++ [z] := ⟨D.dropLast, D.getLast nD, (List.dropLast_concat_getLast nD).symm⟩
 have cfg : Cfg m C1 C2 D1 D2 k c d z := by
  refine ⟨by rw [← eC', ← eD]; exact hR.poly hP, by rw [← eC', eC], by rw [← eD', eD], by rw [← eC']; exact hC, by rw [← eD]; exact hD, ?_⟩
  obtain ⟨v, hv, q⟩ := hn
  have := (hR.mem v).mpr hv
  rcases List.mem_append.mp this with w | w
  ·exact ⟨v, by rw [← eC']; exact w, q⟩
  ·have := hD v w
   omega
 have e := rest_canon (num := num) cfg.eC cfg.eD cfg.hC cfg.hD
 have hRr : Rot (restL m num l) (restL m num (C ++ D)) := hR.edges.flat (emit m num)
 rw [eC', eD, e] at hRr
 exact hRr.symm.poly cfg.poly
end MC
set_option Elab.async false
set_option linter.all false
namespace MC
open MA
namespace Cfg
variable {m : V3} {num : Int} {C1 C2 D1 D2 : List Vx} {k c d z : Vx}
theorem edgesN (h : Cfg m C1 C2 D1 D2 k c d z) {a b : Vx} (he : (a, b) ∈ edges (C1 ++ (tops m num k d ++ bots m z c))) :
  (∃ b', (a, b') ∈ edges ((C1 ++ [k]) ++ (d :: D1)) ∧ a ∈ C1 ++ [k] ∧ b' ∈ C1 ++ [k] ∧ b'.1 = b.1) ∨ (ex m k.1 < 0 ∧ a = k ∧ b.1 = Xp m k d) ∨ (a = (Xp m k d, m, num) ∧ b.1 = Yp m z c) ∨ (ex m c.1 < 0 ∧ a = (Yp m z c, z.2) ∧ b.1 = c.1) := by
 obtain ⟨t0, T, eT, ht0⟩ : ∃ t0 T, tops m num k d ++ bots m z c = t0 :: T ∧ t0.1 = k.1 := by
  unfold tops
  split
  ·exact ⟨_, _, rfl, rfl⟩
  ·exact ⟨_, _, rfl, rfl⟩
 obtain ⟨hd0, R, eR, hhd⟩ : ∃ hd0 R, C1 ++ (t0 :: T) = hd0 :: R ∧ hd0.1 = c.1 := by
  cases C1 with
  | nil =>
   refine ⟨t0, T, rfl, ?_⟩
   have : k = c := by have := h.eC; simp at this; exact this.1
   rw [ht0, this]
  | cons w C1' =>
   refine ⟨w, C1' ++ (t0 :: T), rfl, ?_⟩
   have := h.eC
   rw [List.cons_append] at this
   rw [(List.cons.inj this).1]
 rw [eT, eR, edges_pe, ← eR] at he
 have he : (a, b) ∈ pe (C1 ++ t0 :: (T ++ [hd0])) := by simpa using he
 rw [pe_app] at he
 rcases List.mem_append.mp he with q | q
 ·obtain ⟨b', hb', eb⟩ := pe_pts ht0 C1 a b q
  have m2 := pe_mem _ _ _ hb'
  refine .inl ⟨b', ?_, m2.1, m2.2, eb⟩
  rw [h.eC, List.cons_append, edges_pe, ← List.cons_append, ← h.eC, List.append_assoc]
  exact pe_prefix hb'
 ·unfold tops bots at eT
  by_cases q1 : ex m k.1 < 0 <;> by_cases q2 : ex m c.1 < 0
  ·rw [if_pos q1, if_pos q2] at eT
   simp only [List.cons_append, List.nil_append, List.append_nil, List.cons.injEq] at eT
   obtain ⟨rfl, rfl⟩ := eT
   simp only [List.cons_append, List.nil_append, pe, List.mem_cons, List.not_mem_nil, or_false, Prod.mk.injEq] at q
   rcases q with ⟨rfl, rfl⟩ | ⟨rfl, rfl⟩ | ⟨rfl, rfl⟩
   ·exact .inr (.inl ⟨q1, rfl, by unfold Xp; rw [if_pos q1]⟩)
   ·exact .inr (.inr (.inl ⟨by unfold Xp; rw [if_pos q1], by unfold Yp; rw [if_pos q2]⟩))
   ·exact .inr (.inr (.inr ⟨q2, by unfold Yp; rw [if_pos q2], hhd⟩))
  ·rw [if_pos q1, if_neg q2] at eT
   simp only [List.cons_append, List.nil_append, List.append_nil, List.cons.injEq] at eT
   obtain ⟨rfl, rfl⟩ := eT
   simp only [List.cons_append, List.nil_append, List.append_nil, pe, List.mem_cons, List.not_mem_nil, or_false, Prod.mk.injEq] at q
   rcases q with ⟨rfl, rfl⟩ | ⟨rfl, rfl⟩
   ·exact .inr (.inl ⟨q1, rfl, by unfold Xp; rw [if_pos q1]⟩)
   ·exact .inr (.inr (.inl ⟨by unfold Xp; rw [if_pos q1], by unfold Yp; rw [if_neg q2]; exact hhd⟩))
  ·rw [if_neg q1, if_pos q2] at eT
   simp only [List.cons_append, List.nil_append, List.append_nil, List.cons.injEq] at eT
   obtain ⟨rfl, rfl⟩ := eT
   simp only [List.cons_append, List.nil_append, pe, List.mem_cons, List.not_mem_nil, or_false, Prod.mk.injEq] at q
   rcases q with ⟨rfl, rfl⟩ | ⟨rfl, rfl⟩
   ·exact .inr (.inr (.inl ⟨by unfold Xp; rw [if_neg q1], by unfold Yp; rw [if_pos q2]⟩))
   ·exact .inr (.inr (.inr ⟨q2, by unfold Yp; rw [if_pos q2], hhd⟩))
  ·rw [if_neg q1, if_neg q2] at eT
   simp only [List.cons_append, List.nil_append, List.append_nil, List.cons.injEq] at eT
   obtain ⟨rfl, rfl⟩ := eT
   simp only [List.cons_append, List.nil_append, List.append_nil, pe, List.mem_cons, List.not_mem_nil, or_false, Prod.mk.injEq] at q
   obtain ⟨rfl, rfl⟩ := q
   exact .inr (.inr (.inl ⟨by unfold Xp; rw [if_neg q1], by unfold Yp; rw [if_neg q2]; exact hhd⟩))
theorem newIn (h : Cfg m C1 C2 D1 D2 k c d z) : ∃ b, ((Xp m k d, m, num), b) ∈ edges (C1 ++ (tops m num k d ++ bots m z c)) ∧ b.1 = Yp m z c := by
 have hX : (Xp m k d, m, num) ∈ tops m num k d := by
  unfold tops Xp
  split <;> simp
 have hX2 : (Xp m k d, m, num) ∈ C1 ++ (tops m num k d ++ bots m z c) := by simp [hX]
 -- each corner begins an edge
 have : ∃ b, ((Xp m k d, m, num), b) ∈ edges (C1 ++ (tops m num k d ++ bots m z c)) := by
  generalize C1 ++ (tops m num k d ++ bots m z c) = N at hX2
  obtain ⟨i, hi⟩ := List.getElem?_of_mem hX2
  have li := (List.getElem?_eq_some_iff.mp hi).1
  have lr : i < (rot N).length := by rw [rot_length]; exact li
  refine ⟨(rot N)[i], ?_⟩
  unfold edges
  rw [List.mem_iff_getElem?]
  exact ⟨i, by rw [List.getElem?_zip_eq_some]; exact ⟨hi, List.getElem?_eq_getElem lr⟩⟩
 obtain ⟨b, hb⟩ := this
 refine ⟨b, hb, ?_⟩
 rcases h.edgesN hb with ⟨b', h1, h2, h3, h4⟩ | ⟨q, e, h2⟩ | ⟨e, h2⟩ | ⟨q, e, h2⟩
 ·exfalso
  have hk : ex m k.1 < 0 ∨ ¬ ex m k.1 < 0 := Classical.em _
  rcases hk with q | q
  ·exact h.Xne q h2 rfl
  ·have e : Xp m k d = k.1 := if_neg q
   have ek : ((Xp m k d, m, num) : Vx) = k := h.inj h2 h.kC e
   rw [ek] at h1
   have E := h.hP.edge _ h1
   dsimp only at E
   have eL : k.2.1 = m := by rw [← ek]
   rcases E.back d (h.inD h.dD) with w | w | w
   ·exact h.cd h.kC h.dD w.symm
   ·exact h.cd h3 h.dD w.symm
   ·rw [eL] at w
    have := h.hD d h.dD
    omega
 ·exfalso
  have : (Xp m k d) = k.1 := congrArg Prod.fst e
  exact h.Xne q h.kC this.symm
 ·exact h2
 ·exfalso
  exact h.xy (congrArg Prod.fst e)
theorem dtXY (h : Cfg m C1 C2 D1 D2 k c d z) (p : V3) : 0 ≤ dt (Xp m k d) (Yp m z c) p ↔ ex m p ≤ 0 := by
 have hd := h.hD d h.dD
 have hx := h.xd
 have P := plucker m (Xp m k d) (Yp m z c) p d.1
 rw [h.exX, h.exY, Int.mul_zero, Int.mul_zero, Int.zero_add, Int.zero_add] at P
 constructor
 ·intro q
  have := mul_nn q (Int.le_of_lt hd)
  rw [P] at this
  refine Classical.byContradiction fun no => ?_
  have := Int.mul_neg_of_neg_of_pos hx (show 0 < ex m p by omega)
  omega
 ·intro q
  have : 0 ≤ dt (Xp m k d) (Yp m z c) d.1 * ex m p := Int.mul_nonneg_of_nonpos_of_nonpos (Int.le_of_lt hx) q
  rw [← P] at this
  refine Classical.byContradiction fun no => ?_
  have := Int.mul_neg_of_neg_of_pos (show dt (Xp m k d) (Yp m z c) p < 0 by omega) hd
  omega
theorem ptsN (h : Cfg m C1 C2 D1 D2 k c d z) {p : V3} (hp : ∀ e ∈ edges ((C1 ++ [k]) ++ (d :: D1)), 0 ≤ dt e.1.1 e.2.1 p) :
  (∀ e ∈ edges (C1 ++ (tops m num k d ++ bots m z c)), 0 ≤ dt e.1.1 e.2.1 p) ↔ ex m p ≤ 0 := by
 have kd : (k, d) ∈ edges ((C1 ++ [k]) ++ (d :: D1)) := by
  have := edge_in (p := C1) (s := D1) (a := k) (b := d)
  simpa using this
 have zc : (z, c) ∈ edges ((C1 ++ [k]) ++ (d :: D1)) := by
  rw [h.eC, ← h.eD]
  have := edge_last (m := C2 ++ D2) (a := z) (b := c)
  simpa using this
 constructor
 ·intro q
  obtain ⟨b, hb, e⟩ := h.newIn (num := num)
  have := q _ hb
  dsimp only at this
  rw [e] at this
  exact (h.dtXY p).mp this
 ·rintro q ⟨a, b⟩ he
  dsimp only
  rcases h.edgesN he with ⟨b', h1, h2, h3, h4⟩ | ⟨q1, rfl, h2⟩ | ⟨rfl, h2⟩ | ⟨q1, rfl, h2⟩
  ·rw [← h4]
   exact hp _ h1
  ·rw [h2]
   obtain ⟨s, t, hs, ht, e1, e2, e3⟩ := h.simX
   have e : dt a.1 (Xp m a d) p * s = -(ex m a.1) * dt a.1 d.1 p * t := by
    generalize Xp m a d = w at e1 e2 e3
    unfold cb at e1 e2 e3
    dsimp only at e1 e2 e3
    unfold dt
    grind
   have hkd : 0 ≤ dt a.1 d.1 p := hp _ kd
   have := mul_nn (show 0 ≤ -(ex m a.1) by omega) hkd
   have w := pos_of hs ht e
   omega
  ·rw [h2]
   exact (h.dtXY p).mpr q
  ·rw [h2]
   dsimp only
   obtain ⟨s, t, hs, ht, e1, e2, e3⟩ := h.simY
   have e : dt (Yp m z c) c.1 p * s = -(ex m c.1) * dt z.1 c.1 p * t := by
    generalize Yp m z c = w at e1 e2 e3
    unfold cb at e1 e2 e3
    dsimp only at e1 e2 e3
    unfold dt
    grind
   have hzc : 0 ≤ dt z.1 c.1 p := hp _ zc
   have := mul_nn (show 0 ≤ -(ex m c.1) by omega) hzc
   have w := pos_of hs ht e
   omega
end Cfg
theorem cfg_of {l : List Vx} (hP : Poly l) (m : V3) (hp : ∃ v ∈ l, 0 < ex m v.1) (hn : ∃ v ∈ l, ex m v.1 < 0) :
  ∃ C1 C2 D1 D2 k c d z, Cfg m C1 C2 D1 D2 k c d z ∧ Rot l ((C1 ++ [k]) ++ (d :: D1)) ∧ ∀ num, Rot (restL m num l) (C1 ++ (tops m num k d ++ bots m z c)) := by
 obtain ⟨C, D, hR, nC, nD, hC, hD⟩ := canon hP m hp (by obtain ⟨v, hv, q⟩ := hn; exact ⟨v, hv, by omega⟩)
 obtain ⟨c, C2, eC⟩ : ∃ c C2, C = c :: C2 := by cases C with | nil => exact absurd rfl nC | cons c C2 => exact ⟨c, C2, rfl⟩
 obtain ⟨d, D1, eD⟩ : ∃ d D1, D = d :: D1 := by cases D with | nil => exact absurd rfl nD | cons c C2 => exact ⟨c, C2, rfl⟩
 obtain ⟨C1, k, eC'⟩ : ∃ C1 k, C = C1 ++ [k] := ⟨C.dropLast, C.getLast nC, (List.dropLast_concat_getLast nC).symm⟩
 obtain ⟨D2, z, eD'⟩ : ∃ D2 z, D = D2 ++ [z] := ⟨D.dropLast, D.getLast nD, (List.dropLast_concat_getLast nD).symm⟩
 have cfg : Cfg m C1 C2 D1 D2 k c d z := by
  refine ⟨by rw [← eC', ← eD]; exact hR.poly hP, by rw [← eC', eC], by rw [← eD', eD], by rw [← eC']; exact hC, by rw [← eD]; exact hD, ?_⟩
  obtain ⟨v, hv, q⟩ := hn
  have := (hR.mem v).mpr hv
  rcases List.mem_append.mp this with w | w
  ·exact ⟨v, by rw [← eC']; exact w, q⟩
  ·have := hD v w
   omega
 refine ⟨C1, C2, D1, D2, k, c, d, z, cfg, by rw [← eC', ← eD]; exact hR, fun num => ?_⟩
 have e := rest_canon (num := num) cfg.eC cfg.eD cfg.hC cfg.hD
 have hRr : Rot (restL m num l) (restL m num (C ++ D)) := hR.edges.flat (emit m num)
 rw [eC', eD, e] at hRr
 exact hRr
theorem cut_points {l : List Vx} (hP : Poly l) (m : V3) (num : Int) (hp : ∃ v ∈ l, 0 < ex m v.1) (hn : ∃ v ∈ l, ex m v.1 < 0) {p : V3} (hin : ∀ e ∈ edges l, 0 ≤ dt e.1.1 e.2.1 p) :
  (∀ e ∈ edges (restL m num l), 0 ≤ dt e.1.1 e.2.1 p) ↔ ex m p ≤ 0 := by
 obtain ⟨C1, C2, D1, D2, k, c, d, z, cfg, h1, h2⟩ := cfg_of hP m hp hn
 rw [← cfg.ptsN (num := num) (fun e he => hin e ((h1.edges.mem e).mp he))]
 exact ⟨fun q e he => q e (((h2 num).edges.mem e).mp he), fun q e he => q e (((h2 num).edges.mem e).mpr he)⟩
end MC
set_option Elab.async false
set_option linter.all false
namespace MC
open MA L2
theorem meet_le {L M X : V3} (h1 : ex L X = 0) (h2 : ex M X = 0) (hW : 0 < X.2.2) (hg : Int.gcd (Int.gcd X.1 X.2.1) X.2.2 = 1) (hn : L.1 * M.2.1 - L.2.1 * M.1 ≠ 0) :
  X.1.natAbs ≤ (L.2.2 * M.2.1 - L.2.1 * M.2.2).natAbs ∧ X.2.1.natAbs ≤ (L.1 * M.2.2 - L.2.2 * M.1).natAbs ∧ X.2.2.natAbs ≤ (L.1 * M.2.1 - L.2.1 * M.1).natAbs := by
 have k1 := isPt_of (x := L.2.2 * M.2.1 - L.2.1 * M.2.2) (y := L.1 * M.2.2 - L.2.2 * M.1) hn
 have k2 : IsPt X.1 X.2.1 X.2.2 X.1 X.2.1 X.2.2 := ⟨hW, rfl, rfl, hg, Nat.le_refl _, Nat.le_refl _, Nat.le_refl _⟩
 unfold ex at h1 h2
 obtain ⟨e1, e2, e3⟩ := isPt_same k1 k2 hn (by omega) (by grind) (by grind)
 have a := k1.la
 have b := k1.lb
 have c := k1.lc
 rw [e1] at a
 rw [e2] at b
 rw [e3] at c
 exact ⟨a, b, c⟩
theorem not_par {L U v w c : V3} (h1 : ex L v = 0) (h2 : ex L w = 0) (h3 : ex U v = 0) (h4 : ex U w ≠ 0) (hv : 0 < v.2.2) (hc : ex L c ≠ 0) : U.1 * L.2.1 - U.2.1 * L.1 ≠ 0 := by
 intro D
 have e : ex U w * v.2.2 = U.1 * (w.1 * v.2.2 - v.1 * w.2.2) + U.2.1 * (w.2.1 * v.2.2 - v.2.1 * w.2.2) := by unfold ex at h3 ⊢; grind
 have z : L.1 * (w.1 * v.2.2 - v.1 * w.2.2) + L.2.1 * (w.2.1 * v.2.2 - v.2.1 * w.2.2) = 0 := by unfold ex at h1 h2; grind
 have n : ex U w * v.2.2 ≠ 0 := Int.mul_ne_zero h4 (by omega)
 have q1 : L.1 * (ex U w * v.2.2) = 0 := by rw [e]; grind
 have q2 : L.2.1 * (ex U w * v.2.2) = 0 := by rw [e]; grind
 have l1 : L.1 = 0 := (Int.mul_eq_zero.mp q1).elim id fun q => absurd q n
 have l2 : L.2.1 = 0 := (Int.mul_eq_zero.mp q2).elim id fun q => absurd q n
 unfold ex at h1 hc
 rw [l1, l2, Int.zero_mul, Int.zero_mul, Int.zero_add] at h1 hc
 have l3 : L.2.2 = 0 := by
  have : L.2.2 * v.2.2 = 0 := by omega
  exact (Int.mul_eq_zero.mp this).elim id fun q => by omega
 rw [l3, Int.zero_mul] at hc
 omega
noncomputable def LnB (n : Nat) (l : List Vx) : Prop := ∀ v ∈ l, Bd n v.2.1.1 ∧ Bd n v.2.1.2.1 ∧ Bd n v.2.1.2.2
theorem bd_sub {n : Nat} {a b c d : Int} (h1 : Bd n a) (h2 : Bd n b) (h3 : Bd n c) (h4 : Bd n d) : Bd (2 * n + 1) (a * b - c * d) := by
 have p := h1.mul h2
 have q := h3.mul h4
 unfold Bd at *
 rw [Nat.pow_succ, Nat.two_mul]
 omega
theorem corner_bd {l : List Vx} (hP : Poly l) {n : Nat} (hB : LnB n l) {v : Vx} (hv : v ∈ l) : Bd (2 * n + 1) v.1.1 ∧ Bd (2 * n + 1) v.1.2.1 ∧ Bd (2 * n + 1) v.1.2.2 := by
 -- the list turned so that v is the second
 obtain ⟨p, s, e⟩ := List.append_of_mem hv
 have hR : Rot l (v :: (s ++ p)) := ⟨p, v :: s, e, by simp⟩
 have hPt := hR.poly hP
 have len := hPt.three
 obtain ⟨w, r, u, er⟩ : ∃ w r u, s ++ p = w :: (r ++ [u]) := by
  generalize s ++ p = t at len
  match t, len with
  | w :: y :: t', _ =>
   refine ⟨w, (y :: t').dropLast, (y :: t').getLast (by simp), ?_⟩
   rw [List.dropLast_concat_getLast]
 rw [er] at hPt hR
 have e1 : (v, w) ∈ edges (v :: (w :: (r ++ [u]))) := by
  have := edge_in (p := []) (s := r ++ [u]) (a := v) (b := w)
  simpa using this
 have e2 : (u, v) ∈ edges (v :: (w :: (r ++ [u]))) := by
  have := edge_last (m := w :: r) (a := u) (b := v)
  simpa using this
 have E1 := hPt.edge _ e1
 have E2 := hPt.edge _ e2
 dsimp only at E1 E2
 have nd := hPt.nd
 simp only [List.map_cons, List.map_append, List.map_nil, List.nodup_cons, List.mem_cons, List.mem_append, List.not_mem_nil, or_false, not_or] at nd
 have nwu : w.1 ≠ u.1 := nd.2.1.2
 have nwv : w.1 ≠ v.1 := fun q => nd.1.1 q.symm
 have nuv : u.1 ≠ v.1 := fun q => nd.1.2.2 q.symm
 have B := E2.back_of (c := w) (by simp) nwu nwv
 have B' := E1.back_of (c := u) (by simp) nuv (Ne.symm nwu)
 have np := not_par (L := v.2.1) (U := u.2.1) (v := v.1) (w := w.1) (c := u.1) E1.on1 E1.on2 E2.on2 (by omega) (hP.pos v hv) (by omega)
 have mu : u ∈ l := (hR.mem u).mp (by simp)
 obtain ⟨a1, a2, a3⟩ := hB v hv
 obtain ⟨b1, b2, b3⟩ := hB u mu
 obtain ⟨q1, q2, q3⟩ := meet_le (L := u.2.1) (M := v.2.1) E2.on2 E1.on1 (hP.pos v hv) (hP.low v hv) np
 exact ⟨Nat.lt_of_le_of_lt q1 (bd_sub b3 a2 b2 a3), Nat.lt_of_le_of_lt q2 (bd_sub b1 a3 b3 a1), Nat.lt_of_le_of_lt q3 (bd_sub b1 a2 b2 a1)⟩
theorem rest_lines {m : V3} {num : Int} {l : List Vx} {v : Vx} (hv : v ∈ restL m num l) : v.2 = (m, num) ∨ ∃ u ∈ l, v.2 = u.2 := by
 unfold restL at hv
 obtain ⟨e, he, hv⟩ := List.mem_flatMap.mp hv
 have me := (mem_of_edge (l := l) (a := e.1) (b := e.2) he).1
 unfold emit at hv
 rcases List.mem_append.mp hv with q | q
 ·split at q
  ·obtain rfl : v = e.1 := by simpa using q
   exact .inr ⟨e.1, me, rfl⟩
  ·split at q
   ·obtain rfl : v = (e.1.1, m, num) := by simpa using q
    exact .inl rfl
   ·simp at q
 ·split at q
  ·obtain rfl : v = _ := by simpa using q
   exact .inl rfl
  ·split at q
   ·obtain rfl : v = _ := by simpa using q
    exact .inr ⟨e.1, me, rfl⟩
   ·simp at q
theorem rest_lnb {m : V3} {num : Int} {l : List Vx} {n : Nat} (hB : LnB n l) (hm : Bd n m.1 ∧ Bd n m.2.1 ∧ Bd n m.2.2) : LnB n (restL m num l) := by
 intro v hv
 rcases rest_lines hv with e | ⟨u, hu, e⟩
 ·rw [e]; exact hm
 ·rw [e]; exact hB u hu
theorem cut_len {l : List Vx} (hP : Poly l) (m : V3) (num : Int) (hp : ∃ v ∈ l, 0 < ex m v.1) (hn : ∃ v ∈ l, ex m v.1 < 0) : (restL m num l).length ≤ l.length + 1 := by
 obtain ⟨C1, C2, D1, D2, k, c, d, z, cfg, h1, h2⟩ := cfg_of hP m hp hn
 obtain ⟨u, v, e1, e2⟩ := h1
 obtain ⟨u', v', e3, e4⟩ := h2 num
 have l1 : l.length = ((C1 ++ [k]) ++ (d :: D1)).length := by rw [e2, e1, List.length_append, List.length_append]; omega
 have l2 : (restL m num l).length = (C1 ++ (tops m num k d ++ bots m z c)).length := by rw [e4, e3, List.length_append, List.length_append]; omega
 rw [l1, l2]
 unfold tops bots
 simp only [List.length_append, List.length_cons, List.length_nil]
 split <;> split <;> simp <;> omega
end MC
set_option Elab.async false
set_option linter.all false
namespace MC
theorem fr_cancel {x y v : Int} (hv : 0 < v) (h : x * v < y * v) : x < y := by
 rcases Int.lt_or_le x y with q | q
 ·exact q
 ·have := Int.mul_le_mul_of_nonneg_right q (Int.le_of_lt hv)
  omega
theorem fr_ll {a w b v c u : Int} (hw : 0 < w) (hv : 0 < v) (hu : 0 < u) (h1 : a * v < b * w) (h2 : b * u < c * v) : a * u < c * w := by
 refine fr_cancel hv ?_
 have q1 := Int.mul_lt_mul_of_pos_right h1 hu
 have q2 := Int.mul_lt_mul_of_pos_right h2 hw
 have e1 : a * v * u = a * u * v := by grind
 have e2 : b * w * u = b * u * w := by grind
 have e3 : c * v * w = c * w * v := by grind
 omega
theorem fr_le {a w b v c u : Int} (hw : 0 < w) (hv : 0 < v) (hu : 0 < u) (h1 : a * v < b * w) (h2 : b * u = c * v) : a * u < c * w := by
 refine fr_cancel hv ?_
 have q1 := Int.mul_lt_mul_of_pos_right h1 hu
 have e1 : a * v * u = a * u * v := by grind
 have e2 : b * w * u = b * u * w := by grind
 have e3 : c * v * w = c * w * v := by grind
 rw [h2] at e2
 omega
theorem fr_el {a w b v c u : Int} (hw : 0 < w) (hv : 0 < v) (hu : 0 < u) (h1 : a * v = b * w) (h2 : b * u < c * v) : a * u < c * w := by
 refine fr_cancel hv ?_
 have q2 := Int.mul_lt_mul_of_pos_right h2 hw
 have e1 : a * v * u = a * u * v := by grind
 have e2 : b * w * u = b * u * w := by grind
 have e3 : c * v * w = c * w * v := by grind
 rw [h1] at e1
 omega
theorem fr_ee {a w b v c u : Int} (hv : 0 < v) (h1 : a * v = b * w) (h2 : b * u = c * v) : a * u = c * w := by
 have : a * u * v = c * w * v := by grind
 exact Int.eq_of_mul_eq_mul_right (by omega) this
noncomputable def Ahd (a b : V3) : Prop := a.1 * b.2.2 < b.1 * a.2.2 ∨ (a.1 * b.2.2 = b.1 * a.2.2 ∧ a.2.1 * b.2.2 < b.2.1 * a.2.2)
noncomputable instance (a b : V3) : Decidable (Ahd a b) := by unfold Ahd; exact inferInstance
theorem Ahd.trans {a b c : V3} (ha : 0 < a.2.2) (hb : 0 < b.2.2) (hc : 0 < c.2.2) (h1 : Ahd a b) (h2 : Ahd b c) : Ahd a c := by
 rcases h1 with h1 | ⟨h1, k1⟩
 ·rcases h2 with h2 | ⟨h2, k2⟩
  ·exact .inl (fr_ll ha hb hc h1 h2)
  ·exact .inl (fr_le ha hb hc h1 h2)
 ·rcases h2 with h2 | ⟨h2, k2⟩
  ·exact .inl (fr_el ha hb hc h1 h2)
  ·exact .inr ⟨fr_ee hb h1 h2, fr_ll ha hb hc k1 k2⟩
theorem Ahd.irr (a : V3) : ¬ Ahd a a := by
 rintro (h | ⟨_, h⟩) <;> exact Int.lt_irrefl _ h
end MC
set_option Elab.async false
set_option linter.all false
namespace MC
open MA L2
noncomputable def boxL (x y u v : Int) : List Vx := [((x, y, 1), (0, -1, -y), -1), ((u, y, 1), (1, 0, u), -2), ((u, v, 1), (0, 1, v), -3), ((x, v, 1), (-1, 0, -x), -4)]
theorem box_poly {x y u v : Int} (h1 : x < u) (h2 : y < v) : Poly (boxL x y u v) where
 three := by show 3 ≤ 4; decide
 pos := by
  intro w hw
  simp only [boxL, List.mem_cons, List.not_mem_nil, or_false] at hw
  rcases hw with rfl | rfl | rfl | rfl <;> exact Int.one_pos
 low := by
  intro w hw
  simp only [boxL, List.mem_cons, List.not_mem_nil, or_false] at hw
  rcases hw with rfl | rfl | rfl | rfl <;> exact Int.gcd_one_right _
 nd := by
  simp only [boxL, List.map_cons, List.map_nil, List.nodup_cons, List.mem_cons, List.not_mem_nil, or_false, Prod.mk.injEq, not_or, List.nodup_nil, and_true, not_false_eq_true]
  omega
 edge := by
  intro e he
  have he' : e ∈ [(((x, y, 1), (0, -1, -y), -1), ((u, y, 1), (1, 0, u), -2)), (((u, y, 1), (1, 0, u), -2), ((u, v, 1), (0, 1, v), -3)), (((u, v, 1), (0, 1, v), -3), ((x, v, 1), (-1, 0, -x), -4)), (((x, v, 1), (-1, 0, -x), -4), ((x, y, 1), (0, -1, -y), -1))] := he
  have pp : 0 < (u - x) * (v - y) := Int.mul_pos (by omega) (by omega)
  simp only [List.mem_cons, List.not_mem_nil, or_false] at he'
  rcases he' with rfl | rfl | rfl | rfl
  all_goals
   refine ⟨?_, ?_, ?_, ?_, ?_⟩
   ·simp only [ne_eq, Prod.mk.injEq]
    omega
   ·simp only [ex]
    omega
   ·simp only [ex]
    omega
   ·intro c hc
    simp only [boxL, List.mem_cons, List.not_mem_nil, or_false] at hc
    rcases hc with rfl | rfl | rfl | rfl
    all_goals first | exact .inl rfl | exact .inr (.inl rfl) | (refine .inr (.inr ?_); simp only [dt]; grind)
   ·intro c hc
    simp only [boxL, List.mem_cons, List.not_mem_nil, or_false] at hc
    rcases hc with rfl | rfl | rfl | rfl
    all_goals first | exact .inl rfl | exact .inr (.inl rfl) | (refine .inr (.inr ?_); simp only [ex]; omega)
noncomputable def dot (h p : V3) : Int := h.1 * p.1 + h.2.1 * p.2.1 + h.2.2 * p.2.2
noncomputable def crs3 (a b : V3) : V3 := (a.2.1 * b.2.2 - a.2.2 * b.2.1, a.2.2 * b.1 - a.1 * b.2.2, a.1 * b.2.1 - a.2.1 * b.1)
theorem dt_dot (a b p : V3) : dt a b p = dot (crs3 a b) p := by unfold dt dot crs3; grind
theorem ex_dot (m p : V3) : ex m p = dot (m.1, m.2.1, -m.2.2) p := by unfold ex dot; grind
noncomputable def Hull (cs : List V3) (p : V3) : Prop := ∀ h : V3, (∀ v ∈ cs, 0 ≤ dot h v) → 0 ≤ dot h p
noncomputable def Inside (l : List Vx) (p : V3) : Prop := ∀ e ∈ edges l, 0 ≤ dt e.1.1 e.2.1 p
noncomputable instance (l : List Vx) (p : V3) : Decidable (Inside l p) := by unfold Inside; exact inferInstance
theorem Hull.self {cs : List V3} {p : V3} (h : p ∈ cs) : Hull cs p := fun _ q => q p h
theorem Edge.left0 {l : List Vx} {a b c : Vx} (E : Edge l a b) (hc : c ∈ l) : 0 ≤ dt a.1 b.1 c.1 := by
 rcases E.left c hc with q | q | q
 ·rw [q, dt_same]
  exact Int.le_refl 0
 ·rw [q, dt_same']
  exact Int.le_refl 0
 ·exact Int.le_of_lt q
theorem Hull.inside {l : List Vx} (hP : Poly l) {p : V3} (h : Hull (l.map (·.1)) p) : Inside l p := by
 intro e he
 rw [dt_dot]
 refine h _ fun v hv => ?_
 obtain ⟨c, hc, rfl⟩ := List.mem_map.mp hv
 rw [← dt_dot]
 exact (hP.edge e he).left0 hc
theorem Hull.ex {cs : List V3} {p m : V3} (h : Hull cs p) (q : ∀ v ∈ cs, 0 ≤ ex m v) : 0 ≤ ex m p := by
 rw [ex_dot]
 exact h _ fun v hv => by rw [← ex_dot]; exact q v hv
theorem Rot.inside {l l' : List Vx} (h : Rot l l') (p : V3) : Inside l' p ↔ Inside l p := by
 unfold Inside
 exact ⟨fun q e he => q e ((h.edges.mem e).mpr he), fun q e he => q e ((h.edges.mem e).mp he)⟩
theorem Hull.exn {cs : List V3} {p m : V3} (h : Hull cs p) (q : ∀ v ∈ cs, MC.ex m v ≤ 0) : MC.ex m p ≤ 0 := by
 have e : ∀ p, dot (-m.1, -m.2.1, m.2.2) p = - MC.ex m p := fun p => by unfold dot MC.ex; grind
 have := h (-m.1, -m.2.1, m.2.2) fun v hv => by
  rw [e]
  have := q v hv
  omega
 rw [e] at this
 omega
theorem LnB.rot {n : Nat} {l l' : List Vx} (h : LnB n l) (r : Rot l l') : LnB n l' := fun v hv => h v ((r.mem v).mp hv)
theorem Rot.len {α : Type} {l m : List α} (h : Rot l m) : m.length = l.length := by
 obtain ⟨u, v, rfl, rfl⟩ := h
 rw [List.length_append, List.length_append, Nat.add_comm]
end MC
set_option Elab.async false
set_option linter.all false
set_option Elab.async false
set_option linter.all false
namespace MC
open MA L2
noncomputable abbrev U2 := Int × Int
noncomputable def crs (a b : U2) : Int := a.1 * b.2 - b.1 * a.2
noncomputable def path : List U2 → Int
 | [] => 0
 | [_] => 0
 | a :: b :: r => crs a b + path (b :: r)
noncomputable def cyc : List U2 → Int
 | [] => 0
 | a :: r => path (a :: r ++ [a])
theorem path_app (x : U2) (r : List U2) : ∀ l : List U2, path (l ++ x :: r) = path (l ++ [x]) + path (x :: r)
 | [] => by simp [path]
 | [a] => by simp [path]
 | a :: b :: l => by
  have := path_app x r (b :: l)
  simp only [List.cons_append, path] at this ⊢
  omega
theorem cyc_rot1 (a : U2) (r : List U2) : cyc (r ++ [a]) = cyc (a :: r) := by
 cases r with
 | nil => rfl
 | cons b r =>
  show path (b :: (r ++ [a]) ++ [b]) = crs a b + path (b :: r ++ [a])
  have := path_app a [b] (b :: r)
  rw [show b :: (r ++ [a]) ++ [b] = b :: r ++ a :: [b] by simp, this]
  simp only [path]
  omega
theorem cyc_app : ∀ (u v : List U2), cyc (v ++ u) = cyc (u ++ v)
 | [], v => by simp
 | a :: u, v => by
  have h1 := cyc_app u (v ++ [a])
  have h2 := cyc_rot1 a (u ++ v)
  rw [List.append_assoc, List.singleton_append] at h1
  rw [h1, ← List.append_assoc, h2]
  rfl
theorem cyc_Rot {α : Type} (f : α → U2) {l m : List α} (h : Rot l m) : cyc (m.map f) = cyc (l.map f) := by
 obtain ⟨u, v, rfl, rfl⟩ := h
 rw [List.map_append, List.map_append, cyc_app]
noncomputable def sc (S : Int) (z : V3) : U2 := (z.1 * (S / z.2.2), z.2.1 * (S / z.2.2))
theorem pe_map {α β : Type} (f : α → β) : ∀ l : List α, pe (l.map f) = (pe l).map fun e => (f e.1, f e.2)
 | [] => rfl
 | [_] => rfl
 | x :: y :: r => by
  have := pe_map f (y :: r)
  simp only [List.map_cons, pe] at this ⊢
  rw [this]
end MC
set_option Elab.async false
set_option linter.all false
namespace MC
open MA L2
noncomputable def ng (m : V3) : V3 := (-m.1, -m.2.1, -m.2.2)
end MC
set_option Elab.async false
set_option linter.all false
namespace MC
open MA L2
theorem Sim.dot {q v : V3} (h : Sim q v) (g : V3) : ∃ s t : Int, 0 < s ∧ 0 < t ∧ dot g q * s = dot g v * t := by
 obtain ⟨s, t, hs, ht, e1, e2, e3⟩ := h
 refine ⟨s, t, hs, ht, ?_⟩
 unfold MC.dot
 grind
theorem dot_cb (g : V3) (s : Int) (c : V3) (t : Int) (d : V3) : dot g (cb s c t d) = s * dot g c + t * dot g d := by unfold dot cb; grind
theorem cut_hull {l : List Vx} (hP : Poly l) (m : V3) (num : Int) (hp : ∃ v ∈ l, 0 < ex m v.1) (hn : ∃ v ∈ l, ex m v.1 < 0) {v : Vx} (hv : v ∈ restL m num l) : Hull (l.map (·.1)) v.1 := by
 obtain ⟨C1, C2, D1, D2, k, c, d, z, cfg, h1, h2⟩ := cfg_of hP m hp hn
 have hv' := ((h2 num).mem v).mpr hv
 have ml : ∀ {x : Vx}, x ∈ (C1 ++ [k]) ++ (d :: D1) → x.1 ∈ l.map (·.1) := fun hx => List.mem_map.mpr ⟨_, (h1.mem _).mp hx, rfl⟩
 have hk := cfg.hC k cfg.kC
 have hd := cfg.hD d cfg.dD
 have hc := cfg.hC c cfg.cC
 have hz := cfg.hD z cfg.zD
 have two : ∀ {q x y : V3} {s t : Int}, 0 ≤ s → 0 ≤ t → x ∈ l.map (·.1) → y ∈ l.map (·.1) → Sim q (cb s x t y) → Hull (l.map (·.1)) q := by
  intro q x y s t hs ht hx hy hq g hg
  obtain ⟨s', t', hs', ht', e⟩ := hq.dot g
  have w := pos_of hs' ht' e
  rw [dot_cb] at w
  have q1 := mul_nn hs (hg x hx)
  have q2 := mul_nn ht (hg y hy)
  omega
 rcases cfg.pts hv' with ⟨x, hx, e⟩ | e | e
 ·rw [e]
  exact .self (ml (cfg.inC hx))
 ·rw [e]
  exact two (by omega) (by omega) (ml (cfg.inC cfg.kC)) (ml (cfg.inD cfg.dD)) cfg.simX
 ·rw [e]
  exact two (by omega) (by omega) (ml (cfg.inC cfg.cC)) (ml (cfg.inD cfg.zD)) cfg.simY
end MC
set_option Elab.async false
set_option linter.all false
namespace MC
open MA L2
noncomputable def arStep (p : Int × Int) (z : V3 × V3) : Int × Int := (p.1 * (z.1.2.2 * z.2.2.2) + (z.1.1 * z.2.2.1 - z.2.1 * z.1.2.1) * p.2, p.2 * (z.1.2.2 * z.2.2.2))
noncomputable def arSum (l : List (V3 × V3)) : Int × Int := l.foldl arStep (0, 1)
theorem arSum_snoc (l : List (V3 × V3)) (z : V3 × V3) : arSum (l ++ [z]) = arStep (arSum l) z := by
 unfold arSum
 rw [List.foldl_append]
 rfl
structure ArOf (l : List Vx) (a b : Int) : Prop where
 pos : 0 < a
 bot : 0 < b
 low : Int.gcd a b = 1
 fr : ∀ S : Int, 0 < S → (∀ v ∈ l, v.1.2.2 ∣ S) → a * (2 * S * S) = b * cyc (l.map fun v => sc S v.1)
theorem ArOf.rot {l l' : List Vx} {a b : Int} (A : ArOf l a b) (r : Rot l l') : ArOf l' a b := ⟨A.pos, A.bot, A.low, fun S hS hd => by
 have e := cyc_Rot (fun v : Vx => sc S v.1) r
 rw [e]
 exact A.fr S hS fun v hv => hd v ((r.mem v).mpr hv)⟩
end MC
set_option Elab.async false
set_option linter.all false
namespace MC
open MA L2
theorem plucker_dot (h a b c d : V3) : dt a b c * dot h d = dt d b c * dot h a + dt a d c * dot h b + dt a b d * dot h c := by unfold dt dot; grind
theorem fan_hull {h a p : V3} (ha : 0 ≤ dot h a) : ∀ (s : List V3) (x : V3), 0 ≤ dt a x p → (∀ z ∈ (x :: s).getLast?, dt a z p ≤ 0) → s ≠ [] → (∀ e ∈ pe (x :: s), 0 ≤ dt e.1 e.2 p ∧ 0 < dt a e.1 e.2) → (∀ v ∈ x :: s, 0 ≤ dot h v) → 0 ≤ dot h p
 | [], x, _, _, hn, _, _ => absurd rfl hn
 | y :: s, x, h1, h2, _, h3, h4 => by
  have e := h3 (x, y) (by simp [pe])
  dsimp only at e
  by_cases q : dt a y p ≤ 0
  ·have pl := plucker_dot h a x y p
   have r1 : dt p x y = dt x y p := (dt_rot p x y).symm
   have r2 : dt a p y = - dt a y p := by unfold dt; grind
   rw [r1, r2] at pl
   have m1 := mul_nn e.1 ha
   have m2 := mul_nn (a := - dt a y p) (by omega) (h4 x (by simp))
   have m3 := mul_nn h1 (h4 y (by simp))
   refine Classical.byContradiction fun z => ?_
   have := Int.mul_neg_of_pos_of_neg e.2 (show dot h p < 0 by omega)
   omega
  ·refine fan_hull ha s y (by omega) (fun z hz => h2 z (by rw [List.getLast?_cons_cons]; exact hz)) ?_ (fun e he => h3 e (by simp only [pe, List.mem_cons]; exact .inr he)) (fun v hv => h4 v (List.mem_cons_of_mem _ hv))
   intro z
   subst z
   exact q (h2 y (by simp))
theorem in_hull {l : List Vx} (hP : Poly l) {p : V3} (hin : Inside l p) : Hull (l.map (·.1)) p := by
 intro h hh
 have h3 := hP.three
 match l, h3, hP, hin, hh with
 | a :: b :: c :: r, _, hP, hin, hh =>
  have nd := hP.nd
  rw [List.map_cons, List.nodup_cons] at nd
  have ee : edges (a :: b :: c :: r) = pe (a :: (b :: c :: r) ++ [a]) := edges_pe a (b :: c :: r)
  refine fan_hull (a := a.1) (hh _ (by simp)) ((c :: r).map (·.1)) b.1 ?_ ?_ (by simp) ?_ fun v hv => hh v (by rw [List.map_cons]; exact List.mem_cons_of_mem _ hv)
  ·exact hin (a, b) (edge_in (p := []))
  ·intro z hz
   rw [← List.map_cons (f := fun v : Vx => v.1), List.getLast?_map] at hz
   obtain ⟨z', hz', e⟩ := Option.map_eq_some_iff.mp hz
   subst e
   obtain ⟨m, hm⟩ : ∃ m, b :: c :: r = m ++ [z'] := List.getLast?_eq_some_iff.mp hz'
   have el : (z', a) ∈ edges (a :: b :: c :: r) := by
    rw [hm]
    exact edge_last
   have := hin _ el
   dsimp only at this
   rw [dt_swap] at this
   omega
  ·intro e he
   rw [← List.map_cons (f := fun v : Vx => v.1), pe_map] at he
   obtain ⟨e', he', rfl⟩ := List.mem_map.mp he
   have hl : e' ∈ edges (a :: b :: c :: r) := by
    rw [ee]
    have : (e'.1, e'.2) ∈ pe (b :: c :: r ++ [a]) := pe_prefix he'
    simp only [List.cons_append, pe, List.mem_cons] at this ⊢
    exact .inr this
   have E := hP.edge e' hl
   obtain ⟨m1, m2⟩ := pe_mem _ _ _ he'
   have n1 : a.1 ≠ e'.1.1 := fun z => nd.1 (List.mem_map.mpr ⟨e'.1, m1, z.symm⟩)
   have n2 : a.1 ≠ e'.2.1 := fun z => nd.1 (List.mem_map.mpr ⟨e'.2, m2, z.symm⟩)
   refine ⟨hin e' hl, ?_⟩
   have := E.left_of (c := a) (by simp) n1 n2
   rw [dt_rot] at this
   exact this
theorem Hull.trans {cs ds : List V3} {p : V3} (h1 : Hull ds p) (h2 : ∀ d ∈ ds, Hull cs d) : Hull cs p := fun g hg => h1 g fun d hd => h2 d hd g hg
theorem cut_iff {l l' : List Vx} {m : V3} {num : Int} (hP : Poly l) (hp : ∃ v ∈ l, 0 < ex m v.1) (hn : ∃ v ∈ l, ex m v.1 < 0) (r : Rot (restL m num l) l') (p : V3) : Inside l' p ↔ Inside l p ∧ ex m p ≤ 0 := by
 have P' := r.poly (cut_poly hP m num hp hn)
 have key : Inside l p → (Inside l' p ↔ ex m p ≤ 0) := fun q => (r.inside p).trans (cut_points hP m num hp hn q)
 constructor
 ·intro q
  have i1 : Inside l p := Hull.inside hP (Hull.trans (in_hull P' q) fun d hd => by
   obtain ⟨v, hv, rfl⟩ := List.mem_map.mp hd
   exact cut_hull hP m num hp hn ((r.mem v).mp hv))
  exact ⟨i1, (key i1).mp q⟩
 ·rintro ⟨i1, q⟩
  exact (key i1).mpr q
theorem same_iff {l : List Vx} {m : V3} (hP : Poly l) (h : ∀ v ∈ l, ex m v.1 ≤ 0) (p : V3) : Inside l p ↔ Inside l p ∧ ex m p ≤ 0 :=
 ⟨fun q => ⟨q, (in_hull hP q).exn fun v hv => by
  obtain ⟨u, hu, rfl⟩ := List.mem_map.mp hv
  exact h u hu⟩, fun q => q.1⟩
theorem some_behind {l : List Vx} {m p : V3} (hP : Poly l) (hin : Inside l p) (h : ex m p < 0) : ∃ v ∈ l, ex m v.1 < 0 := by
 refine Classical.byContradiction fun z => ?_
 have := (in_hull hP hin).ex (m := m) fun v hv => by
  obtain ⟨u, hu, rfl⟩ := List.mem_map.mp hv
  exact Int.not_lt.mp fun q => z ⟨u, hu, q⟩
 omega
theorem box_inside {x y u v : Int} (h1 : x < u) (h2 : y < v) (p : V3) : Inside (boxL x y u v) p ↔ (x * p.2.2 ≤ p.1 ∧ p.1 ≤ u * p.2.2) ∧ (y * p.2.2 ≤ p.2.1 ∧ p.2.1 ≤ v * p.2.2) := by
 have e1 : dt (x, y, 1) (u, y, 1) p = (u - x) * (p.2.1 - y * p.2.2) := by unfold dt; grind
 have e2 : dt (u, y, 1) (u, v, 1) p = (v - y) * (u * p.2.2 - p.1) := by unfold dt; grind
 have e3 : dt (u, v, 1) (x, v, 1) p = (u - x) * (v * p.2.2 - p.2.1) := by unfold dt; grind
 have e4 : dt (x, v, 1) (x, y, 1) p = (v - y) * (p.1 - x * p.2.2) := by unfold dt; grind
 have nn : ∀ {a b : Int}, 0 < a → (0 ≤ a * b ↔ 0 ≤ b) := fun {a b} ha => ⟨fun q => Classical.byContradiction fun z => by
  have := Int.mul_neg_of_pos_of_neg ha (show b < 0 by omega)
  omega, fun q => Int.mul_nonneg (by omega) q⟩
 have key : Inside (boxL x y u v) p ↔ 0 ≤ dt (x, y, 1) (u, y, 1) p ∧ 0 ≤ dt (u, y, 1) (u, v, 1) p ∧ 0 ≤ dt (u, v, 1) (x, v, 1) p ∧ 0 ≤ dt (x, v, 1) (x, y, 1) p := by
  unfold Inside boxL edges rot
  simp
 rw [key, e1, e2, e3, e4, nn (by omega), nn (by omega), nn (by omega), nn (by omega)]
 omega
noncomputable def sq2 (z : V3) (r : U2) : Int := (z.1 - r.1 * z.2.2) ^ 2 + (z.2.1 - r.2 * z.2.2) ^ 2
noncomputable def lnB (r s : U2) : V3 :=
 let a := 2 * (s.1 - r.1); let b := 2 * (s.2 - r.2); let c := s.1 * s.1 + s.2 * s.2 - r.1 * r.1 - r.2 * r.2
 (a / (Int.gcd (Int.gcd a b) c : Int), b / (Int.gcd (Int.gcd a b) c : Int), c / (Int.gcd (Int.gcd a b) c : Int))
theorem isLn_eq {a b c x y z : Int} (h : IsLn a b c x y z) : x = a / (Int.gcd (Int.gcd a b) c : Int) ∧ y = b / (Int.gcd (Int.gcd a b) c : Int) ∧ z = c / (Int.gcd (Int.gcd a b) c : Int) := by
 obtain ⟨g, hg, e1, e2, e3, e4⟩ := h.ex
 rw [← e4]
 refine ⟨?_, ?_, ?_⟩
 ·rw [e1, Int.mul_ediv_cancel_left _ (by omega)]
 ·rw [e2, Int.mul_ediv_cancel_left _ (by omega)]
 ·rw [e3, Int.mul_ediv_cancel_left _ (by omega)]
theorem lnB_ex {r s : U2} (h : r ≠ s) : ∃ g : Int, 0 < g ∧ ∀ p : V3, g * ex (lnB r s) p * p.2.2 = sq2 p r - sq2 p s := by
 have hab : ¬ (2 * (s.1 - r.1) = 0 ∧ 2 * (s.2 - r.2) = 0) := fun q => h (Prod.ext (by omega) (by omega))
 have L := (isLn_of (c := s.1 * s.1 + s.2 * s.2 - r.1 * r.1 - r.2 * r.2) hab).1
 have E := isLn_eq L
 obtain ⟨g, hg, e1, e2, e3, e4⟩ := L.ex
 rw [E.1] at e1
 rw [E.2.1] at e2
 rw [E.2.2] at e3
 refine ⟨g, hg, fun p => ?_⟩
 have e : g * ex (lnB r s) p = 2 * (s.1 - r.1) * p.1 + 2 * (s.2 - r.2) * p.2.1 - (s.1 * s.1 + s.2 * s.2 - r.1 * r.1 - r.2 * r.2) * p.2.2 := by
  unfold ex lnB
  dsimp only
  generalize (2 * (s.1 - r.1)) / _ = A at e1 ⊢
  generalize (2 * (s.2 - r.2)) / _ = B at e2 ⊢
  generalize (s.1 * s.1 + s.2 * s.2 - r.1 * r.1 - r.2 * r.2) / _ = D at e3 ⊢
  rw [e1, e2, e3]
  grind
 rw [e]
 unfold sq2
 grind
theorem lnB_sgn {r s : U2} (h : r ≠ s) {p : V3} (hp : 0 < p.2.2) : (ex (lnB r s) p ≤ 0 ↔ sq2 p r ≤ sq2 p s) ∧ (ex (lnB r s) p < 0 ↔ sq2 p r < sq2 p s) ∧ (ex (lnB r s) p = 0 ↔ sq2 p r = sq2 p s) := by
 obtain ⟨g, hg, e⟩ := lnB_ex h
 have e := e p
 have q := pos_of (x := ex (lnB r s) p) (y := sq2 p r - sq2 p s) (s := g * p.2.2) (t := 1) (Int.mul_pos hg hp) (by decide) (by rw [Int.mul_one, ← e]; grind)
 omega
theorem lnB_raw {n : Nat} {a b c d : Int} (h1 : Bd n a) (h2 : Bd n b) (h3 : Bd n c) (h4 : Bd n d) : Bd (2 * n + 4) (2 * (c - a)) ∧ Bd (2 * n + 4) (c * c + d * d - a * a - b * b) := by
 have p1 : (2 : Nat) ^ (2 * n + 4) = 2 ^ (2 * n) * 16 := by rw [Nat.pow_add]
 have p2 : (2 : Nat) ^ n ≤ 2 ^ (2 * n) := Nat.pow_le_pow_right (by decide) (by omega)
 have sqb : ∀ {i : Int}, Bd n i → (i * i).natAbs < 2 ^ (2 * n) := fun {i} hi => by
  have := hi.mul hi
  unfold Bd at this
  rw [show 2 * n = n + n by omega]
  exact this
 have q1 := sqb h1
 have q2 := sqb h2
 have q3 := sqb h3
 have q4 := sqb h4
 unfold Bd at h1 h2 h3 h4 ⊢
 generalize (2 : Nat) ^ (2 * n + 4) = T at p1 ⊢
 generalize (2 : Nat) ^ (2 * n) = T1 at p1 p2 q1 q2 q3 q4
 generalize (2 : Nat) ^ n = T2 at p2 h1 h2 h3 h4
 generalize a * a = A at *
 generalize b * b = B at *
 generalize c * c = C at *
 generalize d * d = D at *
 constructor
 ·omega
 ·omega
theorem lnB_bd {r s : U2} {n : Nat} (h1 : Bd n r.1) (h2 : Bd n r.2) (h3 : Bd n s.1) (h4 : Bd n s.2) (h : r ≠ s) : Bd (2 * n + 4) (lnB r s).1 ∧ Bd (2 * n + 4) (lnB r s).2.1 ∧ Bd (2 * n + 4) (lnB r s).2.2 := by
 have hab : ¬ (2 * (s.1 - r.1) = 0 ∧ 2 * (s.2 - r.2) = 0) := fun q => h (Prod.ext (by omega) (by omega))
 have L := (isLn_of (c := s.1 * s.1 + s.2 * s.2 - r.1 * r.1 - r.2 * r.2) hab).1
 have E := isLn_eq L
 have la := L.la
 have lb := L.lb
 have lc := L.lc
 rw [E.1] at la
 rw [E.2.1] at lb
 rw [E.2.2] at lc
 have b1 := (lnB_raw h1 h2 h3 h4).1
 have b2 := (lnB_raw h2 h1 h4 h3).1
 have b3 := (lnB_raw h1 h2 h3 h4).2
 exact ⟨Nat.lt_of_le_of_lt la b1, Nat.lt_of_le_of_lt lb b2, Nat.lt_of_le_of_lt lc b3⟩
end MC
set_option Elab.async false
set_option linter.all false
namespace MC
open MA L2
theorem mul_self_nn (a : Int) : 0 ≤ a * a := by
 rcases Int.le_total 0 a with h | h
 ·exact Int.mul_nonneg h h
 ·exact Int.mul_nonneg_of_nonpos_of_nonpos h h
noncomputable def nms (l : List Vx) : List Int := l.map fun v => v.2.2
theorem Rot.nodup {α β : Type} (f : α → β) {l m : List α} (h : Rot l m) (hn : (l.map f).Nodup) : (m.map f).Nodup := by
 obtain ⟨u, v, rfl, rfl⟩ := h
 rw [List.map_append, List.nodup_append] at hn ⊢
 exact ⟨hn.2.1, hn.1, fun a ha b hb e => hn.2.2 b hb a ha e.symm⟩
theorem rest_names {l : List Vx} (hP : Poly l) (m : V3) (num : Int) (hp : ∃ v ∈ l, 0 < ex m v.1) (hn : ∃ v ∈ l, ex m v.1 < 0) (nd : (nms l).Nodup) (nn : num ∉ nms l) : (nms (restL m num l)).Nodup := by
 obtain ⟨C1, C2, D1, D2, k, c, d, z, cfg, h1, h2⟩ := cfg_of hP m hp hn
 refine (h2 num).symm.nodup (fun v : Vx => v.2.2) ?_
 have N := h1.nodup (fun v : Vx => v.2.2) nd
 have nn' : ∀ v ∈ (C1 ++ [k]) ++ (d :: D1), v.2.2 ≠ num := fun v hv e => nn (List.mem_map.mpr ⟨v, (h1.mem v).mp hv, e⟩)
 rw [List.map_append, List.nodup_append] at N
 obtain ⟨N1, N2, N3⟩ := N
 have zD := cfg.zD
 have zz : ∀ v ∈ C1 ++ [k], v.2.2 ≠ z.2.2 := fun v hv => N3 _ (List.mem_map.mpr ⟨v, hv, rfl⟩) _ (List.mem_map.mpr ⟨z, zD, rfl⟩)
 have nz := nn' z (cfg.inD zD)
 have hk : k.2.2 ∉ C1.map (fun v => v.2.2) ∧ (C1.map fun v => v.2.2).Nodup := by
  rw [List.map_append, List.nodup_append] at N1
  refine ⟨fun q => N1.2.2 _ q k.2.2 (by simp) rfl, N1.1⟩
 have nC : ∀ v ∈ C1, v.2.2 ≠ num := fun v hv => nn' v (cfg.inC (by simp [hv]))
 have nk := nn' k (cfg.inC cfg.kC)
 have zC : ∀ v ∈ C1, v.2.2 ≠ z.2.2 := fun v hv => zz v (by simp [hv])
 have zk := zz k cfg.kC
 have nC' : num ∉ C1.map (fun v => v.2.2) := fun q => by
  obtain ⟨v, hv, e⟩ := List.mem_map.mp q
  exact nC v hv e
 have zC' : z.2.2 ∉ C1.map (fun v => v.2.2) := fun q => by
  obtain ⟨v, hv, e⟩ := List.mem_map.mp q
  exact zC v hv e
 have app : ∀ (A B : List Int), A.Nodup → B.Nodup → (∀ b ∈ B, b ∉ A) → (A ++ B).Nodup := fun A B a b c => List.nodup_append.mpr ⟨a, b, fun x hx y hy e => c y hy (e ▸ hx)⟩
 rw [List.map_append]
 refine app _ _ hk.2 ?_ ?_
 ·unfold tops bots
  split <;> split <;> simp <;> (try omega)
 ·intro b hb
  unfold tops bots at hb
  rw [List.map_append, List.mem_append] at hb
  rcases hb with hb | hb
  ·split at hb
   ·simp only [List.map_cons, List.map_nil, List.mem_cons, List.not_mem_nil, or_false] at hb
    rcases hb with rfl | rfl
    ·exact hk.1
    ·exact nC'
   ·simp only [List.map_cons, List.map_nil, List.mem_cons, List.not_mem_nil, or_false] at hb
    rw [hb]
    exact nC'
  ·split at hb
   ·simp only [List.map_cons, List.map_nil, List.mem_cons, List.not_mem_nil, or_false] at hb
    rw [hb]
    exact zC'
   ·simp at hb
structure LandOk (x y u v : Int) (rs : List U2) (r : U2) (js : List Nat) (l : List Vx) : Prop where
 poly : Poly l
 lnb : LnB 300 l
 len : l.length ≤ 4 + js.length
 pts : ∀ p, Inside l p ↔ Inside (boxL x y u v) p ∧ ∀ j ∈ js, ∀ s, rs[j]? = some s → ex (lnB r s) p ≤ 0
 lead : ∀ w ∈ l, ∀ h ∈ l.head?, ¬ Ahd w.1 h.1
 nm : ∀ w ∈ l, (∃ b ∈ boxL x y u v, w.2 = b.2) ∨ ∃ j ∈ js, ∃ s, rs[j]? = some s ∧ w.2 = (lnB r s, (j : Int))
 nd : (nms l).Nodup
theorem land_box {x y u v : Int} (rs : List U2) (r : U2) (h1 : x < u) (h2 : y < v) (b : Bd 300 x ∧ Bd 300 y ∧ Bd 300 u ∧ Bd 300 v) : LandOk x y u v rs r [] (boxL x y u v) where
 poly := box_poly h1 h2
 lnb := by
  intro w hw
  simp only [boxL, List.mem_cons, List.not_mem_nil, or_false] at hw
  have l0 : Bd 300 0 := Bd.mono (m := 10) (Bd.of_le 0 (by decide) (by decide) (by decide)) (by decide)
  have l1 : Bd 300 1 := Bd.mono (m := 10) (Bd.of_le 1 (by decide) (by decide) (by decide)) (by decide)
  have l2 : Bd 300 (-1) := Bd.mono (m := 10) (Bd.of_le 1 (by decide) (by decide) (by decide)) (by decide)
  obtain ⟨b1, b2, b3, b4⟩ := b
  rcases hw with rfl | rfl | rfl | rfl
  ·exact ⟨l0, l2, b2.neg⟩
  ·exact ⟨l1, l0, b3⟩
  ·exact ⟨l0, l1, b4⟩
  ·exact ⟨l2, l0, b1.neg⟩
 len := Nat.le_refl 4
 pts := fun p => ⟨fun q => ⟨q, fun j hj => absurd hj List.not_mem_nil⟩, fun q => q.1⟩
 lead := by
  intro w hw h hh
  simp only [boxL, List.head?_cons, Option.mem_def, Option.some.injEq] at hh
  subst hh
  simp only [boxL, List.mem_cons, List.not_mem_nil, or_false] at hw
  unfold Ahd
  rcases hw with rfl | rfl | rfl | rfl <;> dsimp only <;> omega
 nm := fun w hw => .inl ⟨w, hw, rfl⟩
 nd := by
  show ([-1, -2, -3, -4] : List Int).Nodup
  decide
theorem land_same {x y u v : Int} {rs : List U2} {r s : U2} {js : List Nat} {l : List Vx} (h : LandOk x y u v rs r js l) {j : Nat} (hj : rs[j]? = some s) (q : ∀ w ∈ l, ex (lnB r s) w.1 ≤ 0) : LandOk x y u v rs r (js ++ [j]) l where
 poly := h.poly
 lnb := h.lnb
 len := by
  have := h.len
  rw [List.length_append]
  omega
 pts := fun p => by
  constructor
  ·intro i
   have i2 := (same_iff h.poly q p).mp i
   refine ⟨((h.pts p).mp i).1, fun j' hj' s' hs' => ?_⟩
   rcases List.mem_append.mp hj' with z | z
   ·exact ((h.pts p).mp i).2 j' z s' hs'
   ·rw [List.mem_singleton] at z
    subst z
    rw [hj] at hs'
    cases hs'
    exact i2.2
  ·rintro ⟨a, b⟩
   exact (h.pts p).mpr ⟨a, fun j' hj' => b j' (List.mem_append_left _ hj')⟩
 lead := h.lead
 nm := fun w hw => by
  rcases h.nm w hw with z | ⟨j', hj', z⟩
  ·exact .inl z
  ·exact .inr ⟨j', List.mem_append_left _ hj', z⟩
 nd := h.nd
theorem land_cut {x y u v : Int} {rs : List U2} {r s : U2} {js : List Nat} {l l' : List Vx} (h : LandOk x y u v rs r js l) {j : Nat} (hj : rs[j]? = some s) (hn : j ∉ js) (bm : Bd 300 (lnB r s).1 ∧ Bd 300 (lnB r s).2.1 ∧ Bd 300 (lnB r s).2.2)
  (q1 : ∃ w ∈ l, 0 < ex (lnB r s) w.1) (q2 : ∃ w ∈ l, ex (lnB r s) w.1 < 0) (rt : Rot (restL (lnB r s) (j : Int) l) l') (ld : ∀ w ∈ restL (lnB r s) (j : Int) l, ∀ h ∈ l'.head?, ¬ Ahd w.1 h.1) : LandOk x y u v rs r (js ++ [j]) l' where
 poly := rt.poly (cut_poly h.poly _ _ q1 q2)
 lnb := (rest_lnb h.lnb bm).rot rt
 len := by
  have := h.len
  have c := cut_len h.poly (lnB r s) (j : Int) q1 q2
  rw [rt.len, List.length_append]
  show _ ≤ 4 + (js.length + 1)
  omega
 pts := fun p => by
  rw [cut_iff h.poly q1 q2 rt p, h.pts p]
  constructor
  ·rintro ⟨⟨a, b⟩, c⟩
   refine ⟨a, fun j' hj' s' hs' => ?_⟩
   rcases List.mem_append.mp hj' with z | z
   ·exact b j' z s' hs'
   ·rw [List.mem_singleton] at z
    subst z
    rw [hj] at hs'
    cases hs'
    exact c
  ·rintro ⟨a, b⟩
   exact ⟨⟨a, fun j' hj' => b j' (List.mem_append_left _ hj')⟩, b j (by simp) s hj⟩
 lead := fun w hw => ld w ((rt.mem w).mp hw)
 nm := fun w hw => by
  rcases rest_lines ((rt.mem w).mp hw) with z | ⟨w', hw', z⟩
  ·exact .inr ⟨j, by simp, s, hj, z⟩
  ·rw [z]
   rcases h.nm w' hw' with z | ⟨j', hj', z⟩
   ·exact .inl z
   ·exact .inr ⟨j', List.mem_append_left _ hj', z⟩
 nd := by
  refine rt.nodup (fun v : Vx => v.2.2) (rest_names h.poly _ _ q1 q2 h.nd ?_)
  intro hm
  obtain ⟨w, hw, e⟩ := List.mem_map.mp hm
  rcases h.nm w hw with ⟨b, hb, z⟩ | ⟨j', hj', s', hs', z⟩
  ·rw [z] at e
   simp only [boxL, List.mem_cons, List.not_mem_nil, or_false] at hb
   rcases hb with rfl | rfl | rfl | rfl <;> dsimp only at e <;> omega
  ·rw [z] at e
   dsimp only at e
   have : j' = j := by omega
   subst this
   exact hn hj'
theorem land_own {x y u v : Int} {rs : List U2} {r : U2} {js : List Nat} {l : List Vx} (h : LandOk x y u v rs r js l) (h1 : x < u) (h2 : y < v) (hr : x ≤ r.1 ∧ r.1 ≤ u ∧ y ≤ r.2 ∧ r.2 ≤ v) (nd : ∀ j ∈ js, rs[j]? ≠ some r) : Inside l (r.1, r.2, 1) := by
 refine (h.pts _).mpr ⟨(box_inside h1 h2 _).mpr (by dsimp only; omega), fun j hj s hs => ?_⟩
 have ne : r ≠ s := fun z => nd j hj (by rw [hs, z])
 refine (lnB_sgn ne (show (0 : Int) < 1 by decide)).1.mpr ?_
 unfold sq2
 dsimp only
 have e : (r.1 - r.1 * 1) ^ 2 + (r.2 - r.2 * 1) ^ 2 = 0 := by grind
 rw [e]
 have p1 : 0 ≤ (r.1 - s.1 * 1) ^ 2 := by rw [Int.pow_succ, Int.pow_succ, Int.pow_zero, Int.one_mul]; exact mul_self_nn _
 have p2 : 0 ≤ (r.2 - s.2 * 1) ^ 2 := by rw [Int.pow_succ, Int.pow_succ, Int.pow_zero, Int.one_mul]; exact mul_self_nn _
 omega
end MC
namespace MC
open MA L2
theorem own_lt {r s : U2} (ne : r ≠ s) : ex (lnB r s) (r.1, r.2, 1) < 0 := by
 refine (lnB_sgn ne (show (0 : Int) < 1 by decide)).2.1.mpr ?_
 unfold sq2
 dsimp only
 have e : (r.1 - r.1 * 1) ^ 2 + (r.2 - r.2 * 1) ^ 2 = 0 := by grind
 rw [e]
 have e1 : (r.1 - s.1 * 1) ^ 2 = (r.1 - s.1) * (r.1 - s.1) := by grind
 have e2 : (r.2 - s.2 * 1) ^ 2 = (r.2 - s.2) * (r.2 - s.2) := by grind
 rw [e1, e2]
 have p1 := mul_self_nn (r.1 - s.1)
 have p2 := mul_self_nn (r.2 - s.2)
 refine Classical.byContradiction fun z => ne ?_
 have z1 : (r.1 - s.1) * (r.1 - s.1) = 0 := by omega
 have z2 : (r.2 - s.2) * (r.2 - s.2) = 0 := by omega
 rcases Int.mul_eq_zero.mp z1 with a | a <;> rcases Int.mul_eq_zero.mp z2 with b | b <;> exact Prod.ext (by omega) (by omega)
noncomputable def othersL (n i : Nat) : List Nat := (List.range n).filter fun j => decide (j ≠ i)
theorem othersL_succ (n i : Nat) : othersL (n + 1) i = if n ≠ i then othersL n i ++ [n] else othersL n i := by
 unfold othersL
 rw [List.range_succ, List.filter_append]
 by_cases h : n = i
 ·subst h
  simp
 ·simp [h]
theorem mem_othersL {n i j : Nat} : j ∈ othersL n i ↔ j < n ∧ j ≠ i := by
 unfold othersL
 simp
theorem othersL_nodup (n i : Nat) : (othersL n i).Nodup := List.nodup_range.filter _
theorem othersL_len (n i : Nat) : (othersL n i).length ≤ n := by
 unfold othersL
 exact Nat.le_trans (List.length_filter_le _ _) (by rw [List.length_range]; exact Nat.le_refl _)
end MC
set_option Elab.async false
set_option linter.all false
set_option Elab.async false
set_option linter.all false
namespace MC
open MA L2
noncomputable def StepL (m : V3) (num : Int) (l l' : List Vx) : Prop := (l' = l ∧ ∀ v ∈ l, ex m v.1 ≤ 0) ∨ ((∃ v ∈ l, 0 < ex m v.1) ∧ (∃ v ∈ l, ex m v.1 < 0) ∧ Rot (restL m num l) l' ∧ ∀ v ∈ restL m num l, ∀ u ∈ l'.head?, ¬ Ahd v.1 u.1)
theorem Rot.lt {l m : List Vx} (h : Rot l m) (h0 : 0 < l.length) : ∃ k, k < l.length ∧ m = rotk k l := by
 obtain ⟨k, hk, e⟩ := h.at
 by_cases hl : k < l.length
 ·exact ⟨k, hl, e⟩
 ·refine ⟨0, h0, ?_⟩
  rw [e, show k = l.length by omega]
  unfold MC.rotk
  simp
noncomputable def Chain (rs : List U2) (r : U2) : List Nat → List Vx → List Vx → Prop
 | [], l, l' => l' = l
 | j :: js, l, l' => ∃ s l1, rs[j]? = some s ∧ StepL (lnB r s) (j : Int) l l1 ∧ Chain rs r js l1 l'
theorem chain_snoc {rs : List U2} {r s : U2} {j : Nat} {l2 : List Vx} (hs : rs[j]? = some s) : ∀ {js : List Nat} {l l1 : List Vx}, Chain rs r js l l1 → StepL (lnB r s) (j : Int) l1 l2 → Chain rs r (js ++ [j]) l l2
 | [], l, l1, h, q => ⟨s, l2, hs, by rw [← h]; exact q, rfl⟩
 | k :: js, l, l1, ⟨s', a, hs', q', h⟩, q => ⟨s', a, hs', q', chain_snoc hs h q⟩
end MC
set_option Elab.async false
set_option linter.all false
namespace MC
open MA L2
theorem lnb_small {x y u v : Int} {rs : List U2} {r : U2} {js : List Nat} {l : List Vx} (h : LandOk x y u v rs r js l) (hb : Bd 40 x ∧ Bd 40 y ∧ Bd 40 u ∧ Bd 40 v) (hr : Bd 30 r.1 ∧ Bd 30 r.2) (hs : ∀ s ∈ rs, Bd 30 s.1 ∧ Bd 30 s.2) (ne : ∀ j ∈ js, ∀ s, rs[j]? = some s → r ≠ s) : LnB 64 l := fun w hw => by
 rcases h.nm w hw with ⟨b, hb', e⟩ | ⟨j, hj, s, hs', e⟩
 ·rw [e]
  have l0 : Bd 64 0 := Bd.mono (m := 10) (Bd.of_le 0 (by decide) (by decide) (by decide)) (by decide)
  have l1 : Bd 64 1 := Bd.mono (m := 10) (Bd.of_le 1 (by decide) (by decide) (by decide)) (by decide)
  have l2 : Bd 64 (-1) := Bd.mono (m := 10) (Bd.of_le 1 (by decide) (by decide) (by decide)) (by decide)
  simp only [boxL, List.mem_cons, List.not_mem_nil, or_false] at hb'
  obtain ⟨b1, b2, b3, b4⟩ := hb
  rcases hb' with rfl | rfl | rfl | rfl
  ·exact ⟨l0, l2, b2.neg.mono (by decide)⟩
  ·exact ⟨l1, l0, b3.mono (by decide)⟩
  ·exact ⟨l0, l1, b4.mono (by decide)⟩
  ·exact ⟨l2, l0, b1.neg.mono (by decide)⟩
 ·rw [e]
  have := hs s (List.mem_of_getElem? hs')
  exact lnB_bd (n := 30) hr.1 hr.2 this.1 this.2 (ne j hj s hs')
end MC
section
open PySem L2 MA PyProof.Rows MC
local macro_rules | `(tactic| o_head ⟨$a0, $a1, $a2⟩) => `(tactic| simp only [tSeq, List.cons_inj_right, tNext, tIfS, tTest, tOp, tUn, rI, rI0, rU, tVar, tC, tAsg, gName, tRet, tRetN, tDrop, tCall, tCons, tNil, tCB, tTup, tLst, rEq, rNe, ixF, setF, gSub, tPar, tNot, tAnd, tOr, tB, tNotV, tAndV, tOrV, tIf, List.append_nil, List.getElem?_cons_zero, List.getElem?_cons_succ, List.set_cons_zero, List.set_cons_succ, Option.some.injEq, V.int.injEq, V.bl.injEq, V.ref.injEq, exists_eq_left', exists_eq_left, exists_eq_right, exists_and_left, exists_and_right, and_true, true_and, and_assoc, List.cons.injEq, optK_some, seqOf_l, seqOf_t, tYes, tIsN, tNotN, rLenK, tML, tML0, appR, popR, clrR, catF, listF, lenF, slF, tSl, tPart, tNoPart, tyN, isiF, isiT_1, isiT_2, isiT_3, isiT_4, isiT_5, isiT_6, isiT_7, lstOf_l, tup3_some, tup2_some, Option.isSome_some, List.dropLast, List.getLast?, L2.stLC, frV, List.map_cons, List.map_nil, List.replicate_succ, List.replicate_zero, List.cons_append, List.nil_append, List.drop_succ_cons, List.drop_zero, Option.join_some, atI_0, atI_1, atI_2, atI_3, scal, if_true, if_false, Bool.false_eq_true, Bool.true_eq_false, reduceIte, reduceCtorEq, decide_eq_true_eq, Bool.not_eq_true', decide_eq_false_iff_not, eq_self, List.length_cons, List.length_nil, Nat.zero_add, Nat.reduceAdd, Nat.reduceLT, upd_same, Int.cast_ofNat_Int, Int.reduceToNat, Int.reducePow, Int.reduceLE, Int.reduceLT, Int.reduceSub, Int.reduceAdd, Int.reduceMul, Int.reduceNeg, bd10, bd64, bd2, bd3, bd4, ixN_3_0, ixN_3_1, ixN_3_2, ixN_2_0, ixN_2_1, ixN_4_0, ixN_4_1, ixN_4_2, ixN_4_3, ne_eq, Int.reduceEq, not_false_eq_true, not_true_eq_false, false_or, or_false, false_and, and_false, exists_false, exists_const, tCont, tRaise, tRaise0, tTry, tCallS, goneEnds, tPar3, fVar, fI, fI0, fU, fTest, fCons, fNil, fEq, fNe, fNeB, tDg, tDp, dkOf_k, tDisp, tPairs, tDpT, tDNewT, tDgI, tDpI, tDgetI, popAtR, insR, revR, tDNewK, $a0:term, $a1:term, $a2:term])
local macro_rules | `(tactic| o_head ⟨$a0, $a1, $a2, $a3⟩) => `(tactic| simp only [tSeq, List.cons_inj_right, tNext, tIfS, tTest, tOp, tUn, rI, rI0, rU, tVar, tC, tAsg, gName, tRet, tRetN, tDrop, tCall, tCons, tNil, tCB, tTup, tLst, rEq, rNe, ixF, setF, gSub, tPar, tNot, tAnd, tOr, tB, tNotV, tAndV, tOrV, tIf, List.append_nil, List.getElem?_cons_zero, List.getElem?_cons_succ, List.set_cons_zero, List.set_cons_succ, Option.some.injEq, V.int.injEq, V.bl.injEq, V.ref.injEq, exists_eq_left', exists_eq_left, exists_eq_right, exists_and_left, exists_and_right, and_true, true_and, and_assoc, List.cons.injEq, optK_some, seqOf_l, seqOf_t, tYes, tIsN, tNotN, rLenK, tML, tML0, appR, popR, clrR, catF, listF, lenF, slF, tSl, tPart, tNoPart, tyN, isiF, isiT_1, isiT_2, isiT_3, isiT_4, isiT_5, isiT_6, isiT_7, lstOf_l, tup3_some, tup2_some, Option.isSome_some, List.dropLast, List.getLast?, L2.stLC, frV, List.map_cons, List.map_nil, List.replicate_succ, List.replicate_zero, List.cons_append, List.nil_append, List.drop_succ_cons, List.drop_zero, Option.join_some, atI_0, atI_1, atI_2, atI_3, scal, if_true, if_false, Bool.false_eq_true, Bool.true_eq_false, reduceIte, reduceCtorEq, decide_eq_true_eq, Bool.not_eq_true', decide_eq_false_iff_not, eq_self, List.length_cons, List.length_nil, Nat.zero_add, Nat.reduceAdd, Nat.reduceLT, upd_same, Int.cast_ofNat_Int, Int.reduceToNat, Int.reducePow, Int.reduceLE, Int.reduceLT, Int.reduceSub, Int.reduceAdd, Int.reduceMul, Int.reduceNeg, bd10, bd64, bd2, bd3, bd4, ixN_3_0, ixN_3_1, ixN_3_2, ixN_2_0, ixN_2_1, ixN_4_0, ixN_4_1, ixN_4_2, ixN_4_3, ne_eq, Int.reduceEq, not_false_eq_true, not_true_eq_false, false_or, or_false, false_and, and_false, exists_false, exists_const, tCont, tRaise, tRaise0, tTry, tCallS, goneEnds, tPar3, fVar, fI, fI0, fU, fTest, fCons, fNil, fEq, fNe, fNeB, tDg, tDp, dkOf_k, tDisp, tPairs, tDpT, tDNewT, tDgI, tDpI, tDgetI, popAtR, insR, revR, tDNewK, $a0:term, $a1:term, $a2:term, $a3:term])
local macro_rules | `(tactic| o_head ⟨$a0, $a1, $a2, $a3, $a4⟩) => `(tactic| simp only [tSeq, List.cons_inj_right, tNext, tIfS, tTest, tOp, tUn, rI, rI0, rU, tVar, tC, tAsg, gName, tRet, tRetN, tDrop, tCall, tCons, tNil, tCB, tTup, tLst, rEq, rNe, ixF, setF, gSub, tPar, tNot, tAnd, tOr, tB, tNotV, tAndV, tOrV, tIf, List.append_nil, List.getElem?_cons_zero, List.getElem?_cons_succ, List.set_cons_zero, List.set_cons_succ, Option.some.injEq, V.int.injEq, V.bl.injEq, V.ref.injEq, exists_eq_left', exists_eq_left, exists_eq_right, exists_and_left, exists_and_right, and_true, true_and, and_assoc, List.cons.injEq, optK_some, seqOf_l, seqOf_t, tYes, tIsN, tNotN, rLenK, tML, tML0, appR, popR, clrR, catF, listF, lenF, slF, tSl, tPart, tNoPart, tyN, isiF, isiT_1, isiT_2, isiT_3, isiT_4, isiT_5, isiT_6, isiT_7, lstOf_l, tup3_some, tup2_some, Option.isSome_some, List.dropLast, List.getLast?, L2.stLC, frV, List.map_cons, List.map_nil, List.replicate_succ, List.replicate_zero, List.cons_append, List.nil_append, List.drop_succ_cons, List.drop_zero, Option.join_some, atI_0, atI_1, atI_2, atI_3, scal, if_true, if_false, Bool.false_eq_true, Bool.true_eq_false, reduceIte, reduceCtorEq, decide_eq_true_eq, Bool.not_eq_true', decide_eq_false_iff_not, eq_self, List.length_cons, List.length_nil, Nat.zero_add, Nat.reduceAdd, Nat.reduceLT, upd_same, Int.cast_ofNat_Int, Int.reduceToNat, Int.reducePow, Int.reduceLE, Int.reduceLT, Int.reduceSub, Int.reduceAdd, Int.reduceMul, Int.reduceNeg, bd10, bd64, bd2, bd3, bd4, ixN_3_0, ixN_3_1, ixN_3_2, ixN_2_0, ixN_2_1, ixN_4_0, ixN_4_1, ixN_4_2, ixN_4_3, ne_eq, Int.reduceEq, not_false_eq_true, not_true_eq_false, false_or, or_false, false_and, and_false, exists_false, exists_const, tCont, tRaise, tRaise0, tTry, tCallS, goneEnds, tPar3, fVar, fI, fI0, fU, fTest, fCons, fNil, fEq, fNe, fNeB, tDg, tDp, dkOf_k, tDisp, tPairs, tDpT, tDNewT, tDgI, tDpI, tDgetI, popAtR, insR, revR, tDNewK, $a0:term, $a1:term, $a2:term, $a3:term, $a4:term])
local macro_rules | `(tactic| o_head ⟨$a0, $a1, $a2, $a3, $a4, $a5⟩) => `(tactic| simp only [tSeq, List.cons_inj_right, tNext, tIfS, tTest, tOp, tUn, rI, rI0, rU, tVar, tC, tAsg, gName, tRet, tRetN, tDrop, tCall, tCons, tNil, tCB, tTup, tLst, rEq, rNe, ixF, setF, gSub, tPar, tNot, tAnd, tOr, tB, tNotV, tAndV, tOrV, tIf, List.append_nil, List.getElem?_cons_zero, List.getElem?_cons_succ, List.set_cons_zero, List.set_cons_succ, Option.some.injEq, V.int.injEq, V.bl.injEq, V.ref.injEq, exists_eq_left', exists_eq_left, exists_eq_right, exists_and_left, exists_and_right, and_true, true_and, and_assoc, List.cons.injEq, optK_some, seqOf_l, seqOf_t, tYes, tIsN, tNotN, rLenK, tML, tML0, appR, popR, clrR, catF, listF, lenF, slF, tSl, tPart, tNoPart, tyN, isiF, isiT_1, isiT_2, isiT_3, isiT_4, isiT_5, isiT_6, isiT_7, lstOf_l, tup3_some, tup2_some, Option.isSome_some, List.dropLast, List.getLast?, L2.stLC, frV, List.map_cons, List.map_nil, List.replicate_succ, List.replicate_zero, List.cons_append, List.nil_append, List.drop_succ_cons, List.drop_zero, Option.join_some, atI_0, atI_1, atI_2, atI_3, scal, if_true, if_false, Bool.false_eq_true, Bool.true_eq_false, reduceIte, reduceCtorEq, decide_eq_true_eq, Bool.not_eq_true', decide_eq_false_iff_not, eq_self, List.length_cons, List.length_nil, Nat.zero_add, Nat.reduceAdd, Nat.reduceLT, upd_same, Int.cast_ofNat_Int, Int.reduceToNat, Int.reducePow, Int.reduceLE, Int.reduceLT, Int.reduceSub, Int.reduceAdd, Int.reduceMul, Int.reduceNeg, bd10, bd64, bd2, bd3, bd4, ixN_3_0, ixN_3_1, ixN_3_2, ixN_2_0, ixN_2_1, ixN_4_0, ixN_4_1, ixN_4_2, ixN_4_3, ne_eq, Int.reduceEq, not_false_eq_true, not_true_eq_false, false_or, or_false, false_and, and_false, exists_false, exists_const, tCont, tRaise, tRaise0, tTry, tCallS, goneEnds, tPar3, fVar, fI, fI0, fU, fTest, fCons, fNil, fEq, fNe, fNeB, tDg, tDp, dkOf_k, tDisp, tPairs, tDpT, tDNewT, tDgI, tDpI, tDgetI, popAtR, insR, revR, tDNewK, $a0:term, $a1:term, $a2:term, $a3:term, $a4:term, $a5:term])
local macro_rules | `(tactic| o_head ⟨$a0, $a1, $a2, $a3, $a4, $a5, $a6⟩) => `(tactic| simp only [tSeq, List.cons_inj_right, tNext, tIfS, tTest, tOp, tUn, rI, rI0, rU, tVar, tC, tAsg, gName, tRet, tRetN, tDrop, tCall, tCons, tNil, tCB, tTup, tLst, rEq, rNe, ixF, setF, gSub, tPar, tNot, tAnd, tOr, tB, tNotV, tAndV, tOrV, tIf, List.append_nil, List.getElem?_cons_zero, List.getElem?_cons_succ, List.set_cons_zero, List.set_cons_succ, Option.some.injEq, V.int.injEq, V.bl.injEq, V.ref.injEq, exists_eq_left', exists_eq_left, exists_eq_right, exists_and_left, exists_and_right, and_true, true_and, and_assoc, List.cons.injEq, optK_some, seqOf_l, seqOf_t, tYes, tIsN, tNotN, rLenK, tML, tML0, appR, popR, clrR, catF, listF, lenF, slF, tSl, tPart, tNoPart, tyN, isiF, isiT_1, isiT_2, isiT_3, isiT_4, isiT_5, isiT_6, isiT_7, lstOf_l, tup3_some, tup2_some, Option.isSome_some, List.dropLast, List.getLast?, L2.stLC, frV, List.map_cons, List.map_nil, List.replicate_succ, List.replicate_zero, List.cons_append, List.nil_append, List.drop_succ_cons, List.drop_zero, Option.join_some, atI_0, atI_1, atI_2, atI_3, scal, if_true, if_false, Bool.false_eq_true, Bool.true_eq_false, reduceIte, reduceCtorEq, decide_eq_true_eq, Bool.not_eq_true', decide_eq_false_iff_not, eq_self, List.length_cons, List.length_nil, Nat.zero_add, Nat.reduceAdd, Nat.reduceLT, upd_same, Int.cast_ofNat_Int, Int.reduceToNat, Int.reducePow, Int.reduceLE, Int.reduceLT, Int.reduceSub, Int.reduceAdd, Int.reduceMul, Int.reduceNeg, bd10, bd64, bd2, bd3, bd4, ixN_3_0, ixN_3_1, ixN_3_2, ixN_2_0, ixN_2_1, ixN_4_0, ixN_4_1, ixN_4_2, ixN_4_3, ne_eq, Int.reduceEq, not_false_eq_true, not_true_eq_false, false_or, or_false, false_and, and_false, exists_false, exists_const, tCont, tRaise, tRaise0, tTry, tCallS, goneEnds, tPar3, fVar, fI, fI0, fU, fTest, fCons, fNil, fEq, fNe, fNeB, tDg, tDp, dkOf_k, tDisp, tPairs, tDpT, tDNewT, tDgI, tDpI, tDgetI, popAtR, insR, revR, tDNewK, $a0:term, $a1:term, $a2:term, $a3:term, $a4:term, $a5:term, $a6:term])
local macro_rules | `(tactic| o_head ⟨$a0, $a1, $a2, $a3, $a4, $a5, $a6, $a7⟩) => `(tactic| simp only [tSeq, List.cons_inj_right, tNext, tIfS, tTest, tOp, tUn, rI, rI0, rU, tVar, tC, tAsg, gName, tRet, tRetN, tDrop, tCall, tCons, tNil, tCB, tTup, tLst, rEq, rNe, ixF, setF, gSub, tPar, tNot, tAnd, tOr, tB, tNotV, tAndV, tOrV, tIf, List.append_nil, List.getElem?_cons_zero, List.getElem?_cons_succ, List.set_cons_zero, List.set_cons_succ, Option.some.injEq, V.int.injEq, V.bl.injEq, V.ref.injEq, exists_eq_left', exists_eq_left, exists_eq_right, exists_and_left, exists_and_right, and_true, true_and, and_assoc, List.cons.injEq, optK_some, seqOf_l, seqOf_t, tYes, tIsN, tNotN, rLenK, tML, tML0, appR, popR, clrR, catF, listF, lenF, slF, tSl, tPart, tNoPart, tyN, isiF, isiT_1, isiT_2, isiT_3, isiT_4, isiT_5, isiT_6, isiT_7, lstOf_l, tup3_some, tup2_some, Option.isSome_some, List.dropLast, List.getLast?, L2.stLC, frV, List.map_cons, List.map_nil, List.replicate_succ, List.replicate_zero, List.cons_append, List.nil_append, List.drop_succ_cons, List.drop_zero, Option.join_some, atI_0, atI_1, atI_2, atI_3, scal, if_true, if_false, Bool.false_eq_true, Bool.true_eq_false, reduceIte, reduceCtorEq, decide_eq_true_eq, Bool.not_eq_true', decide_eq_false_iff_not, eq_self, List.length_cons, List.length_nil, Nat.zero_add, Nat.reduceAdd, Nat.reduceLT, upd_same, Int.cast_ofNat_Int, Int.reduceToNat, Int.reducePow, Int.reduceLE, Int.reduceLT, Int.reduceSub, Int.reduceAdd, Int.reduceMul, Int.reduceNeg, bd10, bd64, bd2, bd3, bd4, ixN_3_0, ixN_3_1, ixN_3_2, ixN_2_0, ixN_2_1, ixN_4_0, ixN_4_1, ixN_4_2, ixN_4_3, ne_eq, Int.reduceEq, not_false_eq_true, not_true_eq_false, false_or, or_false, false_and, and_false, exists_false, exists_const, tCont, tRaise, tRaise0, tTry, tCallS, goneEnds, tPar3, fVar, fI, fI0, fU, fTest, fCons, fNil, fEq, fNe, fNeB, tDg, tDp, dkOf_k, tDisp, tPairs, tDpT, tDNewT, tDgI, tDpI, tDgetI, popAtR, insR, revR, tDNewK, $a0:term, $a1:term, $a2:term, $a3:term, $a4:term, $a5:term, $a6:term, $a7:term])
local macro_rules | `(tactic| o_head ⟨$a0, $a1, $a2, $a3, $a4, $a5, $a6, $a7, $a8⟩) => `(tactic| simp only [tSeq, List.cons_inj_right, tNext, tIfS, tTest, tOp, tUn, rI, rI0, rU, tVar, tC, tAsg, gName, tRet, tRetN, tDrop, tCall, tCons, tNil, tCB, tTup, tLst, rEq, rNe, ixF, setF, gSub, tPar, tNot, tAnd, tOr, tB, tNotV, tAndV, tOrV, tIf, List.append_nil, List.getElem?_cons_zero, List.getElem?_cons_succ, List.set_cons_zero, List.set_cons_succ, Option.some.injEq, V.int.injEq, V.bl.injEq, V.ref.injEq, exists_eq_left', exists_eq_left, exists_eq_right, exists_and_left, exists_and_right, and_true, true_and, and_assoc, List.cons.injEq, optK_some, seqOf_l, seqOf_t, tYes, tIsN, tNotN, rLenK, tML, tML0, appR, popR, clrR, catF, listF, lenF, slF, tSl, tPart, tNoPart, tyN, isiF, isiT_1, isiT_2, isiT_3, isiT_4, isiT_5, isiT_6, isiT_7, lstOf_l, tup3_some, tup2_some, Option.isSome_some, List.dropLast, List.getLast?, L2.stLC, frV, List.map_cons, List.map_nil, List.replicate_succ, List.replicate_zero, List.cons_append, List.nil_append, List.drop_succ_cons, List.drop_zero, Option.join_some, atI_0, atI_1, atI_2, atI_3, scal, if_true, if_false, Bool.false_eq_true, Bool.true_eq_false, reduceIte, reduceCtorEq, decide_eq_true_eq, Bool.not_eq_true', decide_eq_false_iff_not, eq_self, List.length_cons, List.length_nil, Nat.zero_add, Nat.reduceAdd, Nat.reduceLT, upd_same, Int.cast_ofNat_Int, Int.reduceToNat, Int.reducePow, Int.reduceLE, Int.reduceLT, Int.reduceSub, Int.reduceAdd, Int.reduceMul, Int.reduceNeg, bd10, bd64, bd2, bd3, bd4, ixN_3_0, ixN_3_1, ixN_3_2, ixN_2_0, ixN_2_1, ixN_4_0, ixN_4_1, ixN_4_2, ixN_4_3, ne_eq, Int.reduceEq, not_false_eq_true, not_true_eq_false, false_or, or_false, false_and, and_false, exists_false, exists_const, tCont, tRaise, tRaise0, tTry, tCallS, goneEnds, tPar3, fVar, fI, fI0, fU, fTest, fCons, fNil, fEq, fNe, fNeB, tDg, tDp, dkOf_k, tDisp, tPairs, tDpT, tDNewT, tDgI, tDpI, tDgetI, popAtR, insR, revR, tDNewK, $a0:term, $a1:term, $a2:term, $a3:term, $a4:term, $a5:term, $a6:term, $a7:term, $a8:term])
local macro_rules | `(tactic| o_head ⟨$a0, $a1, $a2, $a3, $a4, $a5, $a6, $a7, $a8, $a9⟩) => `(tactic| simp only [tSeq, List.cons_inj_right, tNext, tIfS, tTest, tOp, tUn, rI, rI0, rU, tVar, tC, tAsg, gName, tRet, tRetN, tDrop, tCall, tCons, tNil, tCB, tTup, tLst, rEq, rNe, ixF, setF, gSub, tPar, tNot, tAnd, tOr, tB, tNotV, tAndV, tOrV, tIf, List.append_nil, List.getElem?_cons_zero, List.getElem?_cons_succ, List.set_cons_zero, List.set_cons_succ, Option.some.injEq, V.int.injEq, V.bl.injEq, V.ref.injEq, exists_eq_left', exists_eq_left, exists_eq_right, exists_and_left, exists_and_right, and_true, true_and, and_assoc, List.cons.injEq, optK_some, seqOf_l, seqOf_t, tYes, tIsN, tNotN, rLenK, tML, tML0, appR, popR, clrR, catF, listF, lenF, slF, tSl, tPart, tNoPart, tyN, isiF, isiT_1, isiT_2, isiT_3, isiT_4, isiT_5, isiT_6, isiT_7, lstOf_l, tup3_some, tup2_some, Option.isSome_some, List.dropLast, List.getLast?, L2.stLC, frV, List.map_cons, List.map_nil, List.replicate_succ, List.replicate_zero, List.cons_append, List.nil_append, List.drop_succ_cons, List.drop_zero, Option.join_some, atI_0, atI_1, atI_2, atI_3, scal, if_true, if_false, Bool.false_eq_true, Bool.true_eq_false, reduceIte, reduceCtorEq, decide_eq_true_eq, Bool.not_eq_true', decide_eq_false_iff_not, eq_self, List.length_cons, List.length_nil, Nat.zero_add, Nat.reduceAdd, Nat.reduceLT, upd_same, Int.cast_ofNat_Int, Int.reduceToNat, Int.reducePow, Int.reduceLE, Int.reduceLT, Int.reduceSub, Int.reduceAdd, Int.reduceMul, Int.reduceNeg, bd10, bd64, bd2, bd3, bd4, ixN_3_0, ixN_3_1, ixN_3_2, ixN_2_0, ixN_2_1, ixN_4_0, ixN_4_1, ixN_4_2, ixN_4_3, ne_eq, Int.reduceEq, not_false_eq_true, not_true_eq_false, false_or, or_false, false_and, and_false, exists_false, exists_const, tCont, tRaise, tRaise0, tTry, tCallS, goneEnds, tPar3, fVar, fI, fI0, fU, fTest, fCons, fNil, fEq, fNe, fNeB, tDg, tDp, dkOf_k, tDisp, tPairs, tDpT, tDNewT, tDgI, tDpI, tDgetI, popAtR, insR, revR, tDNewK, $a0:term, $a1:term, $a2:term, $a3:term, $a4:term, $a5:term, $a6:term, $a7:term, $a8:term, $a9:term])
local macro_rules | `(tactic| o_head ⟨$a0, $a1, $a2, $a3, $a4, $a5, $a6, $a7, $a8, $a9, $a10⟩) => `(tactic| simp only [tSeq, List.cons_inj_right, tNext, tIfS, tTest, tOp, tUn, rI, rI0, rU, tVar, tC, tAsg, gName, tRet, tRetN, tDrop, tCall, tCons, tNil, tCB, tTup, tLst, rEq, rNe, ixF, setF, gSub, tPar, tNot, tAnd, tOr, tB, tNotV, tAndV, tOrV, tIf, List.append_nil, List.getElem?_cons_zero, List.getElem?_cons_succ, List.set_cons_zero, List.set_cons_succ, Option.some.injEq, V.int.injEq, V.bl.injEq, V.ref.injEq, exists_eq_left', exists_eq_left, exists_eq_right, exists_and_left, exists_and_right, and_true, true_and, and_assoc, List.cons.injEq, optK_some, seqOf_l, seqOf_t, tYes, tIsN, tNotN, rLenK, tML, tML0, appR, popR, clrR, catF, listF, lenF, slF, tSl, tPart, tNoPart, tyN, isiF, isiT_1, isiT_2, isiT_3, isiT_4, isiT_5, isiT_6, isiT_7, lstOf_l, tup3_some, tup2_some, Option.isSome_some, List.dropLast, List.getLast?, L2.stLC, frV, List.map_cons, List.map_nil, List.replicate_succ, List.replicate_zero, List.cons_append, List.nil_append, List.drop_succ_cons, List.drop_zero, Option.join_some, atI_0, atI_1, atI_2, atI_3, scal, if_true, if_false, Bool.false_eq_true, Bool.true_eq_false, reduceIte, reduceCtorEq, decide_eq_true_eq, Bool.not_eq_true', decide_eq_false_iff_not, eq_self, List.length_cons, List.length_nil, Nat.zero_add, Nat.reduceAdd, Nat.reduceLT, upd_same, Int.cast_ofNat_Int, Int.reduceToNat, Int.reducePow, Int.reduceLE, Int.reduceLT, Int.reduceSub, Int.reduceAdd, Int.reduceMul, Int.reduceNeg, bd10, bd64, bd2, bd3, bd4, ixN_3_0, ixN_3_1, ixN_3_2, ixN_2_0, ixN_2_1, ixN_4_0, ixN_4_1, ixN_4_2, ixN_4_3, ne_eq, Int.reduceEq, not_false_eq_true, not_true_eq_false, false_or, or_false, false_and, and_false, exists_false, exists_const, tCont, tRaise, tRaise0, tTry, tCallS, goneEnds, tPar3, fVar, fI, fI0, fU, fTest, fCons, fNil, fEq, fNe, fNeB, tDg, tDp, dkOf_k, tDisp, tPairs, tDpT, tDNewT, tDgI, tDpI, tDgetI, popAtR, insR, revR, tDNewK, $a0:term, $a1:term, $a2:term, $a3:term, $a4:term, $a5:term, $a6:term, $a7:term, $a8:term, $a9:term, $a10:term])
namespace LW
open PySem L2 MA PyProof.Rows
noncomputable def top (i : Nat) : Stmt := PySem.Challenge.pw_nearlands_k28_takes_refused.main.body.getD i (.Pass ⟨0, 0, 0, 0⟩)
noncomputable abbrev s_divisor : Stmt := top 10
noncomputable abbrev s_sign : Stmt := top 11
noncomputable abbrev s_point_of : Stmt := top 13
noncomputable abbrev s_spot_point : Stmt := top 14
noncomputable abbrev s_fraction_of : Stmt := top 15
noncomputable abbrev s_difference : Stmt := top 16
noncomputable abbrev s_ahead : Stmt := top 17
noncomputable abbrev s_line_of : Stmt := top 19
noncomputable abbrev s_between : Stmt := top 20
noncomputable abbrev s_excess : Stmt := top 21
noncomputable abbrev s_check_box : Stmt := top 24
noncomputable abbrev s_has_point : Stmt := top 25
noncomputable abbrev s_in_box : Stmt := top 26
noncomputable abbrev s_check_count : Stmt := top 27
noncomputable abbrev s_check_box_and_spots : Stmt := top 28
noncomputable abbrev s_others_of : Stmt := top 29
noncomputable abbrev s_box_field : Stmt := top 31
noncomputable abbrev s_crossing : Stmt := top 35
noncomputable abbrev s_rest : Stmt := top 34
noncomputable abbrev s_from_first : Stmt := top 36
noncomputable abbrev s_cut : Stmt := top 32
noncomputable abbrev s_cut_each : Stmt := top 33
noncomputable abbrev s_area : Stmt := top 37
noncomputable abbrev s_cut_off : Stmt := top 40
noncomputable abbrev s_land_within : Stmt := top 39
noncomputable abbrev s_takes : Stmt := top 42
noncomputable abbrev s__law_feed : Stmt := top 44
noncomputable abbrev s__law_next : Stmt := top 45
noncomputable abbrev s__law_spots : Stmt := top 46
noncomputable abbrev s__law_full : Stmt := top 47
noncomputable abbrev s__law_due : Stmt := top 48
noncomputable abbrev s__law_told : Stmt := top 49
noncomputable abbrev s_law : Stmt := top 50
theorem hu65 {A : Around} {k : Nat} (hr : Room k A) : A.units + 65 < cLine := by have := hr.un; omega
theorem hu64 {A : Around} {k : Nat} (hr : Room k A) : A.units + 64 < cLine := hr.units
structure Cz where
 LandError : Addr
 NoBox : Addr
 TooMany : Addr
 NoSpot : Addr
 NoLot : Addr
 Unknown : Addr
structure Txt (P : Program) (K : PySem.W.Frag) (mg : Str → Option Value) (C : Cz) : Prop where
 b_abs : mg "abs" = none
 b_enumerate : mg "enumerate" = none
 b_isinstance : mg "isinstance" = none
 b_len : mg "len" = none
 b_list : mg "list" = none
 b_max : mg "max" = none
 b_min : mg "min" = none
 b_range : mg "range" = none
 b_super : mg "super" = none
 b_zip : mg "zip" = none
 n_NoSpot : ∃ fI, ExcN P K C.NoSpot fI
 kp_NoSpot : PySem.W.keepIn K (.ref C.NoSpot) = true
 eb_NoSpot : ExcB K C.NoSpot
 at_NoSpot : PySem.W.findIn K (.ref C.NoSpot) "at" = some none
 hd_NoSpot : PySem.W.hasDictIn K C.NoSpot = true
 g_LandError : mg "LandError" = some (.ref C.LandError)
 g_NoBox : mg "NoBox" = some (.ref C.NoBox)
 g_TooMany : mg "TooMany" = some (.ref C.TooMany)
 g_NoSpot : mg "NoSpot" = some (.ref C.NoSpot)
 g_NoLot : mg "NoLot" = some (.ref C.NoLot)
 g_Unknown : mg "Unknown" = some (.ref C.Unknown)
 x_NoBox : ExcC K C.NoBox
 x_TooMany : ExcC K C.TooMany
 n_MOST_SPOTS : ∃ t, mg "MOST_SPOTS" = some (.int 12 t)
 m_NoBox_LandError : PySem.W.exmOne K (.ref C.NoBox) (.ref C.LandError) = some true
 m_TooMany_LandError : PySem.W.exmOne K (.ref C.TooMany) (.ref C.LandError) = some true
 m_NoSpot_LandError : PySem.W.exmOne K (.ref C.NoSpot) (.ref C.LandError) = some true
 i_NoBox_NoBox : PySem.W.kitOne K (.ref C.NoBox) (.ref C.NoBox) = some true
 i_NoBox_TooMany : PySem.W.kitOne K (.ref C.NoBox) (.ref C.TooMany) = some false
 i_NoBox_NoSpot : PySem.W.kitOne K (.ref C.NoBox) (.ref C.NoSpot) = some false
 i_TooMany_NoBox : PySem.W.kitOne K (.ref C.TooMany) (.ref C.NoBox) = some false
 i_TooMany_TooMany : PySem.W.kitOne K (.ref C.TooMany) (.ref C.TooMany) = some true
 i_TooMany_NoSpot : PySem.W.kitOne K (.ref C.TooMany) (.ref C.NoSpot) = some false
 i_NoSpot_NoBox : PySem.W.kitOne K (.ref C.NoSpot) (.ref C.NoBox) = some false
 i_NoSpot_TooMany : PySem.W.kitOne K (.ref C.NoSpot) (.ref C.TooMany) = some false
 i_NoSpot_NoSpot : PySem.W.kitOne K (.ref C.NoSpot) (.ref C.NoSpot) = some true
 j_NoBox_NoLot_Unknown : PySem.W.kitAny K (.ref C.NoBox) [(.ref C.NoLot), (.ref C.Unknown)] = some false
 j_TooMany_NoLot_Unknown : PySem.W.kitAny K (.ref C.TooMany) [(.ref C.NoLot), (.ref C.Unknown)] = some false
 j_NoSpot_NoLot_Unknown : PySem.W.kitAny K (.ref C.NoSpot) [(.ref C.NoLot), (.ref C.Unknown)] = some false
end LW
namespace LW
open PySem L2 MA PyProof.Rows MC
noncomputable def sp_divisor : Sp := fun vs H Q _ => ∃ a b : Int, vs = [.int a, .int b] ∧ Q (.int (Int.gcd a b : Int)) H
noncomputable def sp_sign : Sp := fun vs H Q _ => ∃ n : Int, vs = [.int n] ∧ Q (.int (sgn n)) H
noncomputable abbrev P3 := Int × Int × Int
noncomputable def CsAt (H : Hp) (qs : List Addr) (cs : List P3) : Prop := qs.length = cs.length ∧ ∀ (i : Nat) (q : Addr) (z : P3), qs[i]? = some q → cs[i]? = some z → H q = some (.tup [.int z.1, .int z.2.1, .int z.2.2])
theorem CsAt.ext {H H' : Hp} {qs : List Addr} {rs : List P3} (h : CsAt H qs rs) (x : Ext H H') : CsAt H' qs rs := ⟨h.1, fun i q z a b => x _ _ (h.2 i q z a b)⟩
theorem CsAt.at {H : Hp} {qs : List Addr} {rs : List P3} (h : CsAt H qs rs) {i : Nat} {q : Addr} (hq : qs[i]? = some q) : ∃ r, rs[i]? = some r ∧ H q = some (.tup [.int r.1, .int r.2.1, .int r.2.2]) := by
 have li := (List.getElem?_eq_some_iff.mp hq).1
 have e := List.getElem?_eq_getElem (l := rs) (i := i) (by rw [← h.1]; exact li)
 exact ⟨_, e, h.2 i q _ hq e⟩
theorem CsAt.snoc {H : Hp} {qs : List Addr} {R : List P3} (h : CsAt H qs R) {q : Addr} {v : P3} (h2 : H q = some (.tup [.int v.1, .int v.2.1, .int v.2.2])) : CsAt H (qs ++ [q]) (R ++ [v]) := by
 refine ⟨by rw [List.length_append, List.length_append, h.1]; rfl, fun i t' v' a b => ?_⟩
 by_cases hi : i < qs.length
 ·rw [List.getElem?_append_left hi] at a
  rw [List.getElem?_append_left (by rw [← h.1]; exact hi)] at b
  exact h.2 i t' v' a b
 ·rw [List.getElem?_append_right (by omega)] at a
  rw [List.getElem?_append_right (by rw [← h.1]; omega), ← h.1] at b
  have : i - qs.length = 0 := by
   have := (List.getElem?_eq_some_iff.mp a).1
   simp only [List.length_cons, List.length_nil] at this
   omega
  rw [this] at a b
  cases a
  cases b
  exact h2
theorem CsAt.setL {H : Hp} {qs : List Addr} {R : List P3} {L : Addr} {xs ys : List V} (h : CsAt H qs R) (hL : H L = some (.lst xs)) : CsAt (upd H L (.lst ys)) qs R := ⟨h.1, fun i t v a b => by
 have h1 := h.2 i t v a b
 exact (upd_ne (ne_of h1 hL (by intro z; cases z))).trans h1⟩
structure NewF (H : Hp) (f c e : Addr) : Prop where
 nf : H f = none
 nc : H c = none
 ne : H e = none
 ce : c ≠ e
theorem refs_get {qs : List Addr} {i : Nat} {v : V} (h : (qs.map V.ref)[i]? = some v) : ∃ q, qs[i]? = some q ∧ v = .ref q := by
 rw [List.getElem?_map] at h
 cases e : qs[i]? with
 | none => rw [e] at h; cases h
 | some q => rw [e] at h; exact ⟨q, rfl, (Option.some.inj h).symm⟩
theorem Ext.none {H H' : Hp} {b : Addr} (f : Ext H H') (h : H' b = none) : H b = none := by
 cases q : H b with
 | none => rfl
 | some o =>
  rw [f b o q] at h
  cases h
structure FldAt (H : Hp) (f c e : Addr) (qs : List Addr) (l : List Vx) : Prop where
 at_ : H f = some (.tup [.ref c, .ref e])
 cs : H c = some (.lst (qs.map V.ref))
 pt : CsAt H qs (l.map (·.1))
 es : H e = some (.lst ((l.map (·.2.2)).map V.int))
theorem FldAt.ext {H H' : Hp} {f c e : Addr} {qs : List Addr} {l : List Vx} (h : FldAt H f c e qs l) (x : Ext H H') : FldAt H' f c e qs l := ⟨x _ _ h.at_, x _ _ h.cs, h.pt.ext x, x _ _ h.es⟩
noncomputable def RwAt (H : Hp) (ts : List Addr) (R : List Vx) : Prop := ts.length = R.length ∧ ∀ (i : Nat) (t : Addr) (v : Vx), ts[i]? = some t → R[i]? = some v → ∃ q, H t = some (.tup [.ref q, .int v.2.2]) ∧ H q = some (.tup [.int v.1.1, .int v.1.2.1, .int v.1.2.2])
theorem RwAt.ext {H H' : Hp} {ts : List Addr} {R : List Vx} (h : RwAt H ts R) (x : Ext H H') : RwAt H' ts R := ⟨h.1, fun i t v a b => by
 obtain ⟨q, h1, h2⟩ := h.2 i t v a b
 exact ⟨q, x _ _ h1, x _ _ h2⟩⟩
theorem RwAt.snoc {H : Hp} {ts : List Addr} {R : List Vx} (h : RwAt H ts R) {t q : Addr} {v : Vx} (h1 : H t = some (.tup [.ref q, .int v.2.2])) (h2 : H q = some (.tup [.int v.1.1, .int v.1.2.1, .int v.1.2.2])) : RwAt H (ts ++ [t]) (R ++ [v]) := by
 refine ⟨by rw [List.length_append, List.length_append, h.1]; rfl, fun i t' v' a b => ?_⟩
 by_cases hi : i < ts.length
 ·rw [List.getElem?_append_left hi] at a
  rw [List.getElem?_append_left (by rw [← h.1]; exact hi)] at b
  exact h.2 i t' v' a b
 ·rw [List.getElem?_append_right (by omega)] at a
  rw [List.getElem?_append_right (by rw [← h.1]; omega), ← h.1] at b
  have : i - ts.length = 0 := by
   have := (List.getElem?_eq_some_iff.mp a).1
   simp only [List.length_cons, List.length_nil] at this
   omega
  rw [this] at a b
  cases a
  cases b
  exact ⟨q, h1, h2⟩
theorem cut_from (xs : List V) (k : Nat) : cutV xs (some (k : Int)) none = xs.drop k := by
 unfold cutV
 rw [HT.sIx_nat, HT.sIx_none, List.take_of_length_le (by rw [List.length_drop]; omega)]
 by_cases h : k ≤ xs.length
 ·rw [Nat.min_eq_left h]
 ·rw [Nat.min_eq_right (by omega), List.drop_length, List.drop_eq_nil_of_le (by omega)]
theorem cut_to (xs : List V) (k : Nat) : cutV xs none (some (k : Int)) = xs.take k := by
 unfold cutV
 rw [HT.sIx_nat, HT.sIx_none, List.drop_zero, Nat.sub_zero]
 by_cases h : k ≤ xs.length
 ·rw [Nat.min_eq_left h]
 ·rw [Nat.min_eq_right (by omega), List.take_length, List.take_of_length_le (by omega)]
theorem getElem?_rot {α : Type} {l : List α} {k i : Nat} (hk : k ≤ l.length) : (l.drop k ++ l.take k)[i]? = if i < l.length - k then l[k + i]? else if i < l.length then l[i - (l.length - k)]? else none := by
 by_cases h : i < l.length - k
 ·rw [if_pos h, List.getElem?_append_left (by rw [List.length_drop]; exact h), List.getElem?_drop]
 ·rw [if_neg h, List.getElem?_append_right (by rw [List.length_drop]; omega), List.length_drop]
  by_cases h2 : i < l.length
  ·rw [if_pos h2, List.getElem?_take_of_lt (by omega)]
  ·rw [if_neg h2, List.getElem?_eq_none (by rw [List.length_take]; omega)]
theorem RwAt.rotk {H : Hp} {qs : List Addr} {rs : List Vx} (h : RwAt H qs rs) {k : Nat} (hk : k ≤ qs.length) : RwAt H (MC.rotk k qs) (MC.rotk k rs) := by
 unfold MC.rotk
 refine ⟨by simp only [List.length_append, List.length_drop, List.length_take, h.1], fun i q z h1 h2 => ?_⟩
 rw [getElem?_rot hk] at h1
 rw [getElem?_rot (by rw [← h.1]; exact hk), ← h.1] at h2
 split at h1
 ·rename_i hi
  rw [if_pos hi] at h2
  exact h.2 _ q z h1 h2
 ·rename_i hi
  rw [if_neg hi] at h2
  split at h1
  ·rename_i hi2
   rw [if_pos hi2] at h2
   exact h.2 _ q z h1 h2
  ·cases h1
theorem rotk_map {α β : Type} (f : α → β) (k : Nat) (l : List α) : (rotk k l).map f = rotk k (l.map f) := by
 unfold MC.rotk
 rw [List.map_append, List.map_drop, List.map_take]
theorem rotk_len {α : Type} (k : Nat) (l : List α) : (rotk k l).length = l.length := by
 unfold MC.rotk
 rw [List.length_append, List.length_drop, List.length_take]
 omega
theorem rotk_head {α : Type} {k : Nat} {l : List α} (h : k < l.length) : (rotk k l).head? = l[k]? := by
 unfold MC.rotk
 rw [List.drop_eq_getElem_cons h, List.getElem?_eq_getElem h]
 rfl
noncomputable abbrev P2 := Int × Int
noncomputable def R2At (H : Hp) (qs : List Addr) (rs : List P2) : Prop := qs.length = rs.length ∧ ∀ (i : Nat) (q : Addr) (z : P2), qs[i]? = some q → rs[i]? = some z → H q = some (.tup [.int z.1, .int z.2])
theorem R2At.ext {H H' : Hp} {qs : List Addr} {rs : List P2} (h : R2At H qs rs) (x : Ext H H') : R2At H' qs rs := ⟨h.1, fun i q z a b => x _ _ (h.2 i q z a b)⟩
theorem R2At.at {H : Hp} {qs : List Addr} {rs : List P2} (h : R2At H qs rs) {i : Nat} {q : Addr} (hq : qs[i]? = some q) : ∃ r, rs[i]? = some r ∧ H q = some (.tup [.int r.1, .int r.2]) := by
 have li := (List.getElem?_eq_some_iff.mp hq).1
 have e := List.getElem?_eq_getElem (l := rs) (i := i) (by rw [← h.1]; exact li)
 exact ⟨_, e, h.2 i q _ hq e⟩
structure SpOk (H : Hp) (b l : Addr) (x y u v : Int) (qs : List Addr) (rs : List P2) : Prop where
 bx : H b = some (.tup [.int x, .int y, .int u, .int v])
 sp : H l = some (.lst (qs.map V.ref))
 at_ : R2At H qs rs
 xu : x < u
 yv : y < v
 ins : ∀ r ∈ rs, x ≤ r.1 ∧ r.1 ≤ u ∧ y ≤ r.2 ∧ r.2 ≤ v
 nd : rs.Nodup
 n0 : 0 < rs.length
 n12 : rs.length ≤ 12
 sz : (-(4 * 10 ^ 30) ≤ x ∧ u ≤ 4 * 10 ^ 30) ∧ (-(4 * 10 ^ 30) ≤ y ∧ v ≤ 4 * 10 ^ 30)
theorem SpOk.ext {H H' : Hp} {b l : Addr} {x y u v : Int} {qs : List Addr} {rs : List P2} (h : SpOk H b l x y u v qs rs) (e : Ext H H') : SpOk H' b l x y u v qs rs :=
 ⟨e _ _ h.bx, e _ _ h.sp, h.at_.ext e, h.xu, h.yv, h.ins, h.nd, h.n0, h.n12, h.sz⟩
theorem bd29 {n : Int} (h1 : -(4 * 10 ^ 30) ≤ n) (h2 : n ≤ 4 * 10 ^ 30) (m : Nat) (hm : 110 ≤ m := by decide) : Bd m n := Bd.mono (m := 110) (Bd.of_le (4 * 10 ^ 30) h1 h2 (by decide)) hm
theorem SpOk.b2 {H : Hp} {b l : Addr} {x y u v : Int} {qs : List Addr} {rs : List P2} (h : SpOk H b l x y u v qs rs) {r : P2} (hr : r ∈ rs) : B2 200 r := by
 have := h.ins r hr
 have z := h.sz
 exact ⟨bd29 (by omega) (by omega) 200, bd29 (by omega) (by omega) 200⟩
noncomputable def t2d (r : P2) : PyData := .tuple [.int r.1, .int r.2]
theorem rdy_rs {K : PySem.W.Frag} {H : Hp} : ∀ {qs : List Addr} {rs : List P2}, R2At H qs rs → RdyAll K H (qs.map V.ref) (rs.map t2d)
 | [], [], _ => .nil
 | [], _ :: _, h => by simp [R2At] at h
 | _ :: _, [], h => by simp [R2At] at h
 | p :: ps, c :: cs, h => .cons (rdy_t2 (h.2 0 p c rfl rfl)) (rdy_rs ⟨by simpa using h.1, fun i q z h1 h2 => h.2 (i + 1) q z h1 h2⟩)
theorem R2At.take {H : Hp} {qs : List Addr} {rs : List P2} (h : R2At H qs rs) (k : Nat) : R2At H (qs.take k) (rs.take k) := by
 refine ⟨by rw [List.length_take, List.length_take, h.1], fun i q z h1 h2 => ?_⟩
 by_cases hi : i < k
 ·rw [List.getElem?_take_of_lt hi] at h1 h2
  exact h.2 i q z h1 h2
 ·rw [List.getElem?_eq_none (by rw [List.length_take]; omega)] at h1
  cases h1
theorem lay_rs : ∀ rs : List P2, PyData.canLayAll0 (rs.map t2d) = true ∧ PyData.depthAll (rs.map t2d) ≤ 1
 | [] => ⟨rfl, by simp [PyData.depthAll]⟩
 | c :: cs => by
  obtain ⟨a, b⟩ := lay_rs cs
  constructor
  ·simp [t2d, PyData.canLayAll0, PyData.canLay0]
   exact a
  ·simp [t2d, PyData.depthAll, PyData.depth] at b ⊢
   omega
theorem shaped_rs (rs : List P2) : SeqAt.shaped (.list (rs.map t2d)) = true := by
 obtain ⟨a, b⟩ := lay_rs rs
 unfold SeqAt.shaped
 rw [Bool.and_eq_true, decide_eq_true_eq]
 exact ⟨by simp [PyData.canLay0, a], by simp [PyData.depth]; omega⟩
theorem shaped_t2 (r : P2) : SeqAt.shaped (t2d r) = true := by
 simp [t2d, SeqAt.shaped, PyData.canLay0, PyData.canLayAll0, PyData.depth, PyData.depthAll]
theorem nomix_t2 (a b : P2) : SeqAt.noMix (t2d a) (t2d b) = true := by
 simp [t2d, SeqAt.noMix, SeqAt.noMixAll]
noncomputable def sp_point_of : Sp := fun vs H Q _ => ∃ x y w : Int, vs = [.int x, .int y, .int w] ∧ w ≠ 0 ∧ Bd 8000 w ∧
 ∀ p a b c, H p = none → IsPt x y w a b c → Q (.ref p) (upd H p (.tup [.int a, .int b, .int c]))
noncomputable def sp_spot_point : Sp := fun vs H Q _ => ∃ (p : Addr) (a b : Int), vs = [.ref p] ∧ H p = some (.tup [.int a, .int b]) ∧ ∀ t, H t = none → Q (.ref t) (upd H t (.tup [.int a, .int b, .int 1]))
noncomputable def sp_fraction_of : Sp := fun vs H Q _ => ∃ x w : Int, vs = [.int x, .int w] ∧ w ≠ 0 ∧ Bd 9000 w ∧
 ∀ p a c, H p = none → IsFr x w a c → Q (.ref p) (upd H p (.tup [.int a, .int c]))
noncomputable def sp_difference : Sp := fun vs H Q _ => ∃ (p q : Addr) (a b c d : Int), vs = [.ref p, .ref q] ∧ H p = some (.tup [.int a, .int b]) ∧ H q = some (.tup [.int c, .int d]) ∧ (0 < b ∧ 0 < d) ∧ (∃ m n : Nat, (Bd m a ∧ Bd m b) ∧ (Bd n c ∧ Bd n d) ∧ m + n ≤ 9000) ∧ ∀ t u v, H t = none → IsFr (a * d - c * b) (b * d) u v → Q (.ref t) (upd H t (.tup [.int u, .int v]))
noncomputable def aheadB (a b c d e f : Int) : Bool := if ¬ (a * f - d * c = 0) then decide (a * f - d * c < 0) else decide (b * f < e * c)
noncomputable def sp_ahead : Sp := fun vs H Q _ => ∃ (p q : Addr), vs = [.ref p, .ref q] ∧ optK (tup3 (H p)) fun x => optK (tup3 (H q)) fun y => B3 2000 x ∧ B3 2000 y ∧ Q (.bl (aheadB x.1 x.2.1 x.2.2 y.1 y.2.1 y.2.2)) H
noncomputable def sp_line_of : Sp := fun vs H Q _ => ∃ a b c : Int, vs = [.int a, .int b, .int c] ∧ ¬ (a = 0 ∧ b = 0) ∧ (Bd 4000 a ∧ Bd 4000 b ∧ Bd 4000 c) ∧
 ∀ p x y z, H p = none → IsLn a b c x y z → Q (.ref p) (upd H p (.tup [.int x, .int y, .int z]))
noncomputable def BtwOk (x y : Int × Int) (H : Hp) (Q : VK) : Prop := ¬ x = y ∧ ∀ t, H t = none → Q (.ref t) (upd H t (.tup [.int (lnB x y).1, .int (lnB x y).2.1, .int (lnB x y).2.2]))
noncomputable def sp_between : Sp := fun vs H Q _ => ∃ (p q : Addr), vs = [.ref p, .ref q] ∧ optK (tup2 (H p)) fun x => optK (tup2 (H q)) fun y => B2 400 x ∧ B2 400 y ∧ BtwOk x y H Q
noncomputable def exc3 (x y : Int × Int × Int) : Int := x.1 * y.1 + x.2.1 * y.2.1 - x.2.2 * y.2.2
noncomputable def sp_excess : Sp := fun vs H Q _ => ∃ (p q : Addr), vs = [.ref p, .ref q] ∧ optK (tup3 (H p)) fun x => optK (tup3 (H q)) fun y => B3 2000 x ∧ B3 2000 y ∧ Q (.int (exc3 x y)) H
noncomputable def sp_check_box : Sp := fun vs H Q _ => ∃ (p : Addr) (x y u v : Int), vs = [.ref p] ∧ H p = some (.tup [.int x, .int y, .int u, .int v]) ∧ x < u ∧ y < v ∧ Q .non H
noncomputable def sp_check_boxE (C : Cz) : Sp := fun vs H Q E => ∃ (p : Addr) (x y u v : Int), vs = [.ref p] ∧ H p = some (.tup [.int x, .int y, .int u, .int v]) ∧ ((x < u ∧ y < v ∧ Q .non H) ∨ (¬ (x < u ∧ y < v) ∧ E (.ref C.NoBox) none H))
theorem box_weak {C : Cz} {vs : List V} {H : Hp} {Q : VK} {E : XK} (h : sp_check_box vs H Q E) : sp_check_boxE C vs H Q E := by
 obtain ⟨p, x, y, u, v, e, h1, h2, h3, h4⟩ := h
 exact ⟨p, x, y, u, v, e, h1, .inl ⟨h2, h3, h4⟩⟩
noncomputable def inBox (x y u v : Int) (z : P3) : Bool := decide (x * z.2.2 ≤ z.1 ∧ z.1 ≤ u * z.2.2 ∧ y * z.2.2 ≤ z.2.1 ∧ z.2.1 ≤ v * z.2.2)
noncomputable def sp_has_point : Sp := fun vs H Q _ => ∃ (p q : Addr) (x y u v : Int) (z : P3), vs = [.ref p, .ref q] ∧ H p = some (.tup [.int x, .int y, .int u, .int v]) ∧ H q = some (.tup [.int z.1, .int z.2.1, .int z.2.2]) ∧ (Bd 2000 x ∧ Bd 2000 y ∧ Bd 2000 u ∧ Bd 2000 v) ∧ Bd 2000 z.2.2 ∧ Q (.bl (inBox x y u v z)) H
noncomputable def sp_in_boxB : Sp := fun vs H Q _ => ∃ (p q : Addr) (x y u v a b : Int), vs = [.ref p, .ref q] ∧ H p = some (.tup [.int x, .int y, .int u, .int v]) ∧ H q = some (.tup [.int a, .int b]) ∧ (Bd 2000 x ∧ Bd 2000 y ∧ Bd 2000 u ∧ Bd 2000 v) ∧ ∀ H', Ext H H' → Q (.bl (decide (x ≤ a ∧ a ≤ u ∧ y ≤ b ∧ b ≤ v))) H'
noncomputable def sp_check_countE (C : Cz) : Sp := fun vs H Q E => ∃ (l : Addr) (xs : List V), vs = [.ref l] ∧ H l = some (.lst xs) ∧ ((0 < xs.length ∧ xs.length ≤ 12 ∧ Q .non H) ∨ (¬ (0 < xs.length ∧ xs.length ≤ 12) ∧ E (.ref C.TooMany) none H))
noncomputable def FirstDup (rs : List P2) (i : Nat) : Prop := (rs.take i).Nodup ∧ ∃ r, rs[i]? = some r ∧ r ∈ rs.take i
theorem mem_before {rs : List P2} {i : Nat} {r : P2} : decide (Spec.countIn (t2d r) ((rs.take i).map t2d) ≠ 0) = decide (r ∈ rs.take i) := by
 rw [← any_eqv_countIn _ _ (fun y hy => by obtain ⟨z, _, rfl⟩ := List.mem_map.mp hy; exact nomix_t2 z r)]
 by_cases h : r ∈ rs.take i
 ·rw [decide_eq_true h, List.any_eq_true]
  exact ⟨t2d r, List.mem_map.mpr ⟨r, h, rfl⟩, by show PyData.eqv (.tuple [.int r.1, .int r.2]) (.tuple [.int r.1, .int r.2]) = true; rw [eqv_t2]; simp⟩
 ·rw [decide_eq_false h, List.any_eq_false]
  intro y hy
  obtain ⟨z, hz, rfl⟩ := List.mem_map.mp hy
  show ¬ PyData.eqv (.tuple [.int z.1, .int z.2]) (.tuple [.int r.1, .int r.2]) = true
  rw [eqv_t2, decide_eq_true_eq]
  rintro ⟨e1, e2⟩
  have ez : z = r := Prod.ext e1 e2
  subst ez
  exact h hz
theorem FirstDup.no {rs : List P2} (hn : rs.Nodup) {i : Nat} (h : FirstDup rs i) : False := by
 obtain ⟨_, r, h1, h2⟩ := h
 obtain ⟨j, hj⟩ := List.getElem?_of_mem h2
 have lj := (List.getElem?_eq_some_iff.mp hj).1
 rw [List.length_take] at lj
 rw [List.getElem?_take_of_lt (by omega)] at hj
 obtain ⟨g1, e1⟩ := List.getElem?_eq_some_iff.mp h1
 obtain ⟨g2, e2⟩ := List.getElem?_eq_some_iff.mp hj
 have := (List.getElem_inj (h₀ := g1) (h₁ := g2) hn).mp (e1.trans e2.symm)
 omega
theorem nodup_take {rs : List P2} {i : Nat} {r : P2} (hn : (rs.take i).Nodup) (hi : rs[i]? = some r) (h : r ∉ rs.take i) : (rs.take (i + 1)).Nodup := by
 rw [List.take_succ, hi]
 exact List.nodup_append.mpr ⟨hn, by simp, fun a ha b hb e => h (by simp at hb; rw [← hb, ← e]; exact ha)⟩
noncomputable def isIn (x y u v : Int) (r : P2) : Prop := x ≤ r.1 ∧ r.1 ≤ u ∧ y ≤ r.2 ∧ r.2 ≤ v
noncomputable instance {x y u v : Int} {r : P2} : Decidable (isIn x y u v r) := by unfold isIn; infer_instance
noncomputable def BadAt (x y u v : Int) (rs : List P2) (i : Nat) : Prop := ∃ r, rs[i]? = some r ∧ (¬ isIn x y u v r ∨ r ∈ rs.take i)
noncomputable def FirstBad (x y u v : Int) (rs : List P2) (i : Nat) : Prop := BadAt x y u v rs i ∧ ∀ j, j < i → ¬ BadAt x y u v rs j
noncomputable def AllOk (x y u v : Int) (rs : List P2) : Prop := ∀ j, ¬ BadAt x y u v rs j
theorem AllOk.ins {x y u v : Int} {rs : List P2} (h : AllOk x y u v rs) : ∀ r ∈ rs, isIn x y u v r := fun r hr => by
 obtain ⟨j, hj⟩ := List.getElem?_of_mem hr
 exact Classical.byContradiction fun z => h j ⟨r, hj, .inl z⟩
theorem AllOk.nd {x y u v : Int} {rs : List P2} (h : AllOk x y u v rs) : rs.Nodup := by
 have key : ∀ k, k ≤ rs.length → (rs.take k).Nodup := by
  intro k
  induction k with
  | zero => intro _; simp
  | succ k ih =>
   intro hk
   have hi : rs[k]? = some rs[k] := List.getElem?_eq_getElem (by omega)
   exact nodup_take (ih (by omega)) hi fun z => h k ⟨_, hi, .inr z⟩
 have := key rs.length (Nat.le_refl _)
 rwa [List.take_length] at this
theorem AllOk.of {x y u v : Int} {rs : List P2} (h1 : ∀ r ∈ rs, isIn x y u v r) (h2 : rs.Nodup) : AllOk x y u v rs := by
 rintro j ⟨r, hj, q | q⟩
 ·exact q (h1 r (List.mem_of_getElem? hj))
 ·obtain ⟨k, hk⟩ := List.getElem?_of_mem q
  have lk := (List.getElem?_eq_some_iff.mp hk).1
  rw [List.length_take] at lk
  rw [List.getElem?_take_of_lt (by omega)] at hk
  obtain ⟨g1, e1⟩ := List.getElem?_eq_some_iff.mp hj
  obtain ⟨g2, e2⟩ := List.getElem?_eq_some_iff.mp hk
  have := (List.getElem_inj (h₀ := g1) (h₁ := g2) h2).mp (e1.trans e2.symm)
  omega
structure BxOk (H : Hp) (b l : Addr) (x y u v : Int) (qs : List Addr) (rs : List P2) : Prop where
 bx : H b = some (.tup [.int x, .int y, .int u, .int v])
 sp : H l = some (.lst (qs.map V.ref))
 at_ : R2At H qs rs
 b4 : Bd 2000 x ∧ Bd 2000 y ∧ Bd 2000 u ∧ Bd 2000 v
 few : rs.length < 100000
theorem BxOk.ext {H H' : Hp} {b l : Addr} {x y u v : Int} {qs : List Addr} {rs : List P2} (h : BxOk H b l x y u v qs rs) (e : Ext H H') : BxOk H' b l x y u v qs rs := ⟨e _ _ h.bx, e _ _ h.sp, h.at_.ext e, h.b4, h.few⟩
structure Vdt (C : Cz) (x y u v : Int) (rs : List P2) (H : Hp) (G : Hp → Prop) (E : XK) : Prop where
 box : ¬ (x < u ∧ y < v) → ∀ H', Ext H H' → E (.ref C.NoBox) none H'
 many : x < u → y < v → ¬ (0 < rs.length ∧ rs.length ≤ 12) → ∀ H', Ext H H' → E (.ref C.TooMany) none H'
 spot : x < u → y < v → 0 < rs.length → rs.length ≤ 12 → ∀ i, FirstBad x y u v rs i → ∀ H' dx, Ext H H' → H' dx = none → E (.ref C.NoSpot) (some dx) (upd H' dx (.xd [("at", .int (i : Int))]))
 right : x < u → y < v → 0 < rs.length → rs.length ≤ 12 → AllOk x y u v rs → ∀ H', Ext H H' → G H'
theorem Vdt.ext {C : Cz} {x y u v : Int} {rs : List P2} {H H1 : Hp} {G : Hp → Prop} {E : XK} (h : Vdt C x y u v rs H G E) (e : Ext H H1) : Vdt C x y u v rs H1 G E :=
 ⟨fun a H' x' => h.box a H' (e.trans x'), fun a b c H' x' => h.many a b c H' (e.trans x'), fun a b c d i f H' dx x' => h.spot a b c d i f H' dx (e.trans x'), fun a b c d f H' x' => h.right a b c d f H' (e.trans x')⟩
noncomputable def sp_cbsE (K : PySem.W.Frag) (C : Cz) : Sp := fun vs H Q E => ∃ (b l : Addr) (x y u v : Int) (qs : List Addr) (rs : List P2), vs = [.ref b, .ref l] ∧ BxOk H b l x y u v qs rs ∧ Vdt C x y u v rs H (fun H' => Q .non H') E
noncomputable def JsV (js : List Nat) : List V := js.map fun j : Nat => V.int (j : Int)
theorem JsV_get {js : List Nat} {k : Nat} {w : V} (hk : (JsV js)[k]? = some w) : ∃ j : Nat, js[k]? = some j ∧ w = .int (j : Int) := by
 unfold JsV at hk
 rw [List.getElem?_map] at hk
 cases e : js[k]? with
 | none => rw [e] at hk; cases hk
 | some q => rw [e] at hk; exact ⟨q, rfl, (Option.some.inj hk).symm⟩
noncomputable def sp_others : Sp := fun vs H Q _ => ∃ (l : Addr) (i : Nat) (xs : List V), vs = [.ref l, .int (i : Int)] ∧ H l = some (.lst xs) ∧ xs.length ≤ 1000 ∧ ∀ D H', Ext H H' → H D = none → H' D = some (.lst (JsV (othersL xs.length i))) → Q (.ref D) H'
noncomputable def sp_box_field : Sp := fun vs H Q _ => ∃ (p : Addr) (x y u v : Int), vs = [.ref p] ∧ H p = some (.tup [.int x, .int y, .int u, .int v]) ∧ x < u ∧ y < v ∧ ∀ f c e qs H', Ext H H' → NewF H f c e → FldAt H' f c e qs (boxL x y u v) → Q (.ref f) H'
noncomputable def sp_crossing : Sp := fun vs H Q _ => ∃ (p q : Addr) (h t : Int) (a b : P3), vs = [.ref p, .ref q, .int h, .int t] ∧ H p = some (.tup [.int a.1, .int a.2.1, .int a.2.2]) ∧ H q = some (.tup [.int b.1, .int b.2.1, .int b.2.2]) ∧ B3 601 a ∧ B3 601 b ∧ Bd 3000 h ∧ Bd 3000 t ∧ a.2.2 * t - b.2.2 * h ≠ 0 ∧ ∀ r, H r = none → Q (.ref r) (upd H r (.tup [.int (crossPt a b h t).1, .int (crossPt a b h t).2.1, .int (crossPt a b h t).2.2]))
theorem edges_get {l : List Vx} {i : Nat} {a b : Vx} (ha : l[i]? = some a) (hb : l[(i + 1) % l.length]? = some b) : (edges l)[i]? = some (a, b) := by
 have li := (List.getElem?_eq_some_iff.mp ha).1
 unfold edges
 rw [List.getElem?_zip_eq_some]
 refine ⟨ha, ?_⟩
 unfold MC.rot
 by_cases h : i + 1 < l.length
 ·rw [Nat.mod_eq_of_lt h] at hb
  rw [List.getElem?_append_left (by rw [List.length_drop]; omega), List.getElem?_drop, Nat.add_comm]
  exact hb
 ·have e : i + 1 = l.length := by omega
  rw [e, Nat.mod_self] at hb
  rw [List.getElem?_append_right (by rw [List.length_drop]; omega), List.length_drop, show i - (l.length - 1) = 0 by omega, List.getElem?_take_of_lt (by decide)]
  exact hb
theorem ex_bd {m v : P3} (h1 : B3 300 m) (h2 : B3 601 v) : Bd 3000 (ex m v) := (((h1.1.mul h2.1).add (h1.2.1.mul h2.2.1)).sub (h1.2.2.mul h2.2.2)).mono (by decide)
theorem emit_one (m : P3) (num : Int) (e : Vx × Vx) : (emit m num e).length ≤ 2 := by
 unfold emit
 rw [List.length_append]
 have h1 : (if ex m e.1.1 < 0 ∨ (ex m e.1.1 = 0 ∧ ex m e.2.1 ≤ 0) then [e.1] else if ex m e.1.1 = 0 then [(e.1.1, m, num)] else []).length ≤ 1 := by
  split
  ·simp
  ·split <;> simp
 have h2 : (if ex m e.1.1 < 0 ∧ 0 < ex m e.2.1 then [(crossPt e.1.1 e.2.1 (ex m e.1.1) (ex m e.2.1), m, num)] else if 0 < ex m e.1.1 ∧ ex m e.2.1 < 0 then [(crossPt e.1.1 e.2.1 (ex m e.1.1) (ex m e.2.1), e.1.2)] else []).length ≤ 1 := by
  split
  ·simp
  ·split <;> simp
 omega
theorem emit_all (m : P3) (num : Int) : ∀ es : List (Vx × Vx), (es.flatMap (emit m num)).length ≤ 2 * es.length
 | [] => Nat.le_refl _
 | e :: es => by
  have h1 := emit_one m num e
  have h2 := emit_all m num es
  rw [List.flatMap_cons, List.length_append, List.length_cons]
  omega
theorem emit_len (m : P3) (num : Int) (l : List Vx) (i : Nat) (h : l.length ≤ 30) : (((edges l).take i).flatMap (emit m num)).length ≤ 60 := by
 have h1 := emit_all m num ((edges l).take i)
 rw [List.length_take, edges_length] at h1
 omega
theorem RwAt.setL {H : Hp} {ts : List Addr} {R : List Vx} {L : Addr} {xs ys : List V} (h : RwAt H ts R) (hL : H L = some (.lst xs)) : RwAt (upd H L (.lst ys)) ts R := ⟨h.1, fun i t v a b => by
 obtain ⟨q, h1, h2⟩ := h.2 i t v a b
 exact ⟨q, (upd_ne (ne_of h1 hL (by intro z; cases z))).trans h1, (upd_ne (ne_of h2 hL (by intro z; cases z))).trans h2⟩⟩
theorem row_app {H H5 : Hp} {L p q : Addr} {ts : List Addr} {R : List Vx} {v : Vx} (hL : H L = none) (eL : H5 L = some (.lst (ts.map V.ref))) (x : Ext H H5) (r : RwAt H5 ts R) (hp : H5 p = none) (hq : H5 q = some (.tup [.int v.1.1, .int v.1.2.1, .int v.1.2.2])) :
  upd H5 p (.tup [.ref q, .int v.2.2]) L = some (.lst (ts.map V.ref)) ∧ RwAt (upd (upd H5 p (.tup [.ref q, .int v.2.2])) L (.lst (ts.map V.ref ++ [.ref p]))) (ts ++ [p]) (R ++ [v]) ∧ Ext H (upd (upd H5 p (.tup [.ref q, .int v.2.2])) L (.lst (ts.map V.ref ++ [.ref p]))) := by
 have e := upd_f (o := .tup [.ref q, .int v.2.2]) hp eL
 refine ⟨e, ?_, (x.then hp).set hL⟩
 exact ((r.ext (Ext.upd hp)).snoc upd_same (upd_f hp hq)).setL e
theorem map_snoc (ts : List Addr) (p : Addr) : ts.map V.ref ++ [.ref p] = (ts ++ [p]).map V.ref := by simp
noncomputable def sp_rest (K : PySem.W.Frag) : Sp := fun vs H Q _ => ∃ (c e x : Addr) (num : Int) (qs : List Addr) (l : List Vx) (m : P3), vs = [.ref c, .ref e, .ref x, .int num] ∧ H c = some (.lst (qs.map V.ref)) ∧ CsAt H qs (l.map (·.1)) ∧ H e = some (.lst ((l.map (·.2.2)).map V.int)) ∧ H x = some (.lst ((l.map fun v => ex m v.1).map V.int)) ∧ (∀ v ∈ l, 0 < v.1.2.2 ∧ B3 601 v.1) ∧ B3 300 m ∧ 0 < l.length ∧ l.length ≤ 30 ∧ ∀ t ts H', Ext H H' → H t = none → H' t = some (.lst (ts.map V.ref)) → RwAt H' ts (restL m num l) → Q (.ref t) H'
theorem aheadB_eq (a b : P3) : aheadB a.1 a.2.1 a.2.2 b.1 b.2.1 b.2.2 = decide (Ahd a b) := by
 unfold aheadB Ahd
 split
 ·rename_i h
  exact decide_eq_decide.mpr (by omega)
 ·rename_i h
  exact decide_eq_decide.mpr (by omega)
noncomputable def sp_from_first (K : PySem.W.Frag) : Sp := fun vs H Q _ => ∃ (t : Addr) (ts : List Addr) (R : List Vx), vs = [.ref t] ∧ H t = some (.lst (ts.map V.ref)) ∧ RwAt H ts R ∧ (∀ v ∈ R, 0 < v.1.2.2 ∧ B3 601 v.1) ∧ 0 < R.length ∧ R.length ≤ 60 ∧ ∀ f c e qs l' H', Ext H H' → NewF H f c e → FldAt H' f c e qs l' → Rot R l' → (∀ v ∈ R, ∀ u ∈ l'.head?, ¬ Ahd v.1 u.1) → Q (.ref f) H'
noncomputable def sp_cut (K : PySem.W.Frag) : Sp := fun vs H Q _ => ∃ (f ln : Addr) (num : Int) (c e : Addr) (qs : List Addr) (l : List Vx) (m : P3), vs = [.ref f, .ref ln, .int num] ∧ FldAt H f c e qs l ∧ H ln = some (.tup [.int m.1, .int m.2.1, .int m.2.2]) ∧ Poly l ∧ LnB 300 l ∧ B3 300 m ∧ l.length ≤ 30 ∧
 (∀ H', Ext H H' → (∀ v ∈ l, 0 ≤ ex m v.1) → (∃ v ∈ l, 0 < ex m v.1) → Q .non H') ∧
 (∀ f' c' e' qs' H', Ext H H' → NewF H f' c' e' → FldAt H' f' c' e' qs' l → (∀ v ∈ l, ex m v.1 ≤ 0) → Q (.ref f') H') ∧
 (∀ f' c' e' qs' l' H', Ext H H' → NewF H f' c' e' → FldAt H' f' c' e' qs' l' → (∃ v ∈ l, 0 < ex m v.1) → (∃ v ∈ l, ex m v.1 < 0) → Rot (restL m num l) l' → (∀ v ∈ restL m num l, ∀ u ∈ l'.head?, ¬ Ahd v.1 u.1) → Q (.ref f') H')
noncomputable def sp_cuteach (K : PySem.W.Frag) : Sp := fun vs H Q _ => ∃ (f o c e : Addr) (ps : List Addr) (L : List Vx) (ts : List Addr) (cs : List Vx) (P : Nat → List Vx → Prop) (NN : Prop), vs = [.ref f, .ref o] ∧ FldAt H f c e ps L ∧ H o = some (.lst (ts.map V.ref)) ∧ RwAt H ts cs ∧ P 0 L ∧
 (∀ k w L', cs[k]? = some w → P k L' → Poly L' ∧ LnB 300 L' ∧ B3 300 w.1 ∧ L'.length ≤ 30 ∧ ((∀ v ∈ L', ex w.1 v.1 ≤ 0) → P (k + 1) L') ∧ (∀ l', (∃ v ∈ L', 0 < ex w.1 v.1) → (∃ v ∈ L', ex w.1 v.1 < 0) → Rot (restL w.1 w.2.2 L') l' → (∀ v ∈ restL w.1 w.2.2 L', ∀ u ∈ l'.head?, ¬ Ahd v.1 u.1) → P (k + 1) l') ∧ ((∀ v ∈ L', 0 ≤ ex w.1 v.1) → (∃ v ∈ L', 0 < ex w.1 v.1) → NN)) ∧
 (NN → ∀ H', Ext H H' → Q .non H') ∧ ∀ f' c' e' ps' L' H', Ext H H' → (NewF H f' c' e' ∨ (f' = f ∧ c' = c ∧ e' = e)) → FldAt H' f' c' e' ps' L' → P cs.length L' → Q (.ref f') H'
theorem Bd.addm {n : Nat} {a b : Int} (h1 : Bd n a) (h2 : Bd n b) : Bd (n + 1) (a + b) := by
 unfold Bd at *
 rw [Nat.pow_succ]
 omega
theorem Bd.subm {n : Nat} {a b : Int} (h1 : Bd n a) (h2 : Bd n b) : Bd (n + 1) (a - b) := by
 unfold Bd at *
 rw [Nat.pow_succ]
 omega
theorem cut_tail (xs : List V) : cutV xs (some 1) none = xs.drop 1 := by
 unfold cutV
 have e : HT.sIx xs.length 0 (some 1) = min 1 xs.length := HT.sIx_nat xs.length 0 1
 rw [e, HT.sIx_none]
 cases xs with
 | nil => rfl
 | cons x r => simp
theorem cut_head (xs : List V) : cutV xs none (some 1) = xs.take 1 := by
 unfold cutV
 have e : HT.sIx xs.length xs.length (some 1) = min 1 xs.length := HT.sIx_nat xs.length xs.length 1
 rw [e, HT.sIx_none]
 cases xs with
 | nil => rfl
 | cons x r => simp
theorem isFr_next {N D t b s r a c : Int} (h : IsFr N D t b) (hs : s ≠ 0) (hD : D ≠ 0) (k : IsFr (t * s + r * b) (b * s) a c) : IsFr (N * s + r * D) (D * s) a c := by
 have hb := h.pos
 have n1 : b * s ≠ 0 := Int.mul_ne_zero (by omega) hs
 have n2 : D * s ≠ 0 := Int.mul_ne_zero hD hs
 have k2 := isFr_of (x := N * s + r * D) n2
 have e := h.ex
 obtain ⟨e1, e2⟩ := isFr_same k k2 n1 n2 (by grind)
 rw [← e1, ← e2] at k2
 exact k2
noncomputable def sp_area (K : PySem.W.Frag) : Sp := fun vs H Q _ => ∃ (f c e : Addr) (qs : List Addr) (cs : List P3) (n m : Nat), vs = [.ref f] ∧ H f = some (.tup [.ref c, .ref e]) ∧ H c = some (.lst (qs.map V.ref)) ∧ CsAt H qs cs ∧ (∀ z ∈ cs, 0 < z.2.2 ∧ B3 n z) ∧ (cs.length + 2) * (2 * n + 2) + 100 ≤ m ∧ m ≤ 5000 ∧ 0 < cs.length ∧ cs.length ≤ 1000 ∧
 ∀ t a b H', Ext H H' → H t = none → H' t = some (.tup [.int a, .int b]) → Bd m a → Bd m b → IsFr (arSum (cs.zip (rot cs))).1 (2 * (arSum (cs.zip (rot cs))).2) a b → Q (.ref t) H'
noncomputable def Small (x y u v : Int) (rs : List P2) : Prop := ((-(2 * 10 ^ 9) ≤ x ∧ u ≤ 2 * 10 ^ 9) ∧ (-(2 * 10 ^ 9) ≤ y ∧ v ≤ 2 * 10 ^ 9)) ∧ ∀ r ∈ rs, (-(10 ^ 9 + 3) ≤ r.1 ∧ r.1 ≤ 10 ^ 9 + 3) ∧ (-(10 ^ 9 + 3) ≤ r.2 ∧ r.2 ≤ 10 ^ 9 + 3)
theorem R2At.snoc {H : Hp} {qs : List Addr} {R : List P2} (h : R2At H qs R) {q : Addr} {v : P2} (h2 : H q = some (.tup [.int v.1, .int v.2])) : R2At H (qs ++ [q]) (R ++ [v]) := by
 refine ⟨by rw [List.length_append, List.length_append, h.1]; rfl, fun i t' v' a b => ?_⟩
 by_cases hi : i < qs.length
 ·rw [List.getElem?_append_left hi] at a
  rw [List.getElem?_append_left (by rw [← h.1]; exact hi)] at b
  exact h.2 i t' v' a b
 ·rw [List.getElem?_append_right (by omega)] at a
  rw [List.getElem?_append_right (by rw [← h.1]; omega), ← h.1] at b
  have : i - qs.length = 0 := by
   have := (List.getElem?_eq_some_iff.mp a).1
   simp only [List.length_cons, List.length_nil] at this
   omega
  rw [this] at a b
  cases a
  cases b
  exact h2
theorem othersL_lt (i : Nat) : ∀ n, i < n → (othersL n i).length < n
 | 0, h => absurd h (Nat.not_lt_zero _)
 | n + 1, h => by
  rw [othersL_succ]
  by_cases e : n = i
  ·rw [if_neg (by omega)]
   exact Nat.lt_succ_of_le (othersL_len n i)
  ·rw [if_pos e, List.length_append]
   have := othersL_lt i n (by omega)
   show _ + 1 < _
   omega
noncomputable def arN (l : List Vx) : Int := (arSum ((l.map (·.1)).zip (rot (l.map (·.1))))).1
noncomputable def arD (l : List Vx) : Int := 2 * (arSum ((l.map (·.1)).zip (rot (l.map (·.1))))).2
noncomputable def sp_areaP (K : PySem.W.Frag) : Sp := fun vs H Q _ => ∃ (f c e : Addr) (qs : List Addr) (l : List Vx), vs = [.ref f] ∧ FldAt H f c e qs l ∧ Poly l ∧ LnB 64 l ∧ l.length ≤ 15 ∧ ∀ t a b H', Ext H H' → H t = none → H' t = some (.tup [.int a, .int b]) → IsFr (arN l) (arD l) a b → Bd ((l.length + 2) * 260 + 100) a → Bd ((l.length + 2) * 260 + 100) b → Q (.ref t) H'
theorem area_weak {K : PySem.W.Frag} {vs : List V} {H : Hp} {Q : VK} {E : XK} (h : sp_areaP K vs H Q E) : sp_area K vs H Q E := by
 obtain ⟨f, c, e, qs, l, ev, hf, hP, hB, l15, h⟩ := h
 refine ⟨f, c, e, qs, l.map (·.1), 129, (l.length + 2) * 260 + 100, ev, hf.at_, hf.cs, hf.pt, fun z hz => ?_, ?_, ?_, ?_, ?_, fun t a b H' x n e1 ba bb k => h t a b H' x n e1 k ba bb⟩
 ·obtain ⟨v, hv, rfl⟩ := List.mem_map.mp hz
  exact ⟨hP.pos v hv, corner_bd hP hB hv⟩
 ·rw [List.length_map]
  exact Nat.le_refl _
 ·omega
 ·rw [List.length_map]
  have := hP.three
  omega
 ·rw [List.length_map]
  omega
noncomputable def LnAt (rs : List P2) (r : P2) (j : Nat) : Vx := (lnB r (rs.getD j (0, 0)), lnB r (rs.getD j (0, 0)), (j : Int))
theorem LnAt_of {rs : List P2} {r s : P2} {j : Nat} (h : rs[j]? = some s) : LnAt rs r j = (lnB r s, lnB r s, (j : Int)) := by
 unfold LnAt
 rw [List.getD_eq_getElem?_getD, h]
 rfl
theorem nodup_ne {α : Type} {rs : List α} (nd : rs.Nodup) {i j : Nat} {r s : α} (hi : rs[i]? = some r) (hj : rs[j]? = some s) (ne : j ≠ i) : r ≠ s := fun z => by
 subst z
 have h1 := List.getElem?_eq_some_iff.mp hi
 have h2 := List.getElem?_eq_some_iff.mp hj
 exact ne ((List.getElem_inj (h₀ := h2.1) (h₁ := h1.1) nd).mp (h2.2.trans h1.2.symm))
theorem not_take {js : List Nat} (nd : js.Nodup) {k j : Nat} (hj : js[k]? = some j) : j ∉ js.take k := fun z => by
 obtain ⟨k', hk'⟩ := List.getElem?_of_mem z
 have lk := (List.getElem?_eq_some_iff.mp hk').1
 rw [List.length_take] at lk
 rw [List.getElem?_take_of_lt (by omega)] at hk'
 have h1 := List.getElem?_eq_some_iff.mp hj
 have h2 := List.getElem?_eq_some_iff.mp hk'
 have := (List.getElem_inj (h₀ := h1.1) (h₁ := h2.1) nd).mp (h1.2.trans h2.2.symm)
 omega
noncomputable def sp_cutoff (K : PySem.W.Frag) : Sp := fun vs H Q _ => ∃ (f l : Addr) (i : Nat) (o b : Addr) (x y u v : Int) (qs : List Addr) (rs : List P2) (c e : Addr) (ps : List Addr) (L : List Vx) (r : P2) (js : List Nat), vs = [.ref f, .ref l, .int (i : Int), .ref o] ∧ SpOk H b l x y u v qs rs ∧ FldAt H f c e ps L ∧ LandOk x y u v rs r [] L ∧ rs[i]? = some r ∧ H o = some (.lst (JsV js)) ∧ js.Nodup ∧ js.length ≤ 12 ∧ (∀ j ∈ js, j < rs.length ∧ j ≠ i) ∧
 ∀ f' c' e' ps' L' H', Ext H H' → (NewF H f' c' e' ∨ (f' = f ∧ c' = c ∧ e' = e)) → FldAt H' f' c' e' ps' L' → LandOk x y u v rs r js L' → Chain rs r js L L' → Q (.ref f') H'
noncomputable def sp_landw (K : PySem.W.Frag) : Sp := fun vs H Q _ => ∃ (b l : Addr) (i : Nat) (x y u v : Int) (qs : List Addr) (rs : List P2) (r : P2), vs = [.ref b, .ref l, .int (i : Int)] ∧ SpOk H b l x y u v qs rs ∧ rs[i]? = some r ∧
 ∀ f c e ps L H', Ext H H' → NewF H f c e → FldAt H' f c e ps L → LandOk x y u v rs r (othersL rs.length i) L → Chain rs r (othersL rs.length i) (boxL x y u v) L → Q (.ref f) H'
noncomputable def fieldData (cs : List P3) (es : List Int) : PyData := .tuple [.list (cs.map fun z => .tuple [.int z.1, .int z.2.1, .int z.2.2]), .list (es.map PyData.int)]
theorem rdy_cs {K : PySem.W.Frag} {H : Hp} : ∀ {ps : List Addr} {cs : List P3}, CsAt H ps cs → RdyAll K H (ps.map V.ref) (cs.map fun z => .tuple [.int z.1, .int z.2.1, .int z.2.2])
 | [], [], _ => .nil
 | [], _ :: _, h => by simp [CsAt] at h
 | _ :: _, [], h => by simp [CsAt] at h
 | p :: ps, c :: cs, h => .cons (rdy_t3 (h.2 0 p c rfl rfl)) (rdy_cs ⟨by simpa using h.1, fun i q z h1 h2 => h.2 (i + 1) q z h1 h2⟩)
theorem rdy_es {K : PySem.W.Frag} {H : Hp} : ∀ es : List Int, RdyAll K H (es.map V.int) (es.map PyData.int)
 | [] => .nil
 | e :: es => .cons (.int e) (rdy_es es)
theorem rdy_fld {K : PySem.W.Frag} {H : Hp} {f c e : Addr} {ps : List Addr} {cs : List P3} {es : List Int} (h1 : H f = some (.tup [.ref c, .ref e])) (h2 : H c = some (.lst (ps.map V.ref))) (h3 : CsAt H ps cs) (h4 : H e = some (.lst (es.map V.int))) : Rdy K H (.ref f) (fieldData cs es) :=
 .tup (SqT.of h1) (.cons (.lst (SqL.of h2) (rdy_cs h3)) (.cons (.lst (SqL.of h4) (rdy_es es)) .nil))
theorem lay_cs : ∀ cs : List P3, PyData.canLayAll0 (cs.map fun z => .tuple [.int z.1, .int z.2.1, .int z.2.2]) = true ∧ PyData.depthAll (cs.map fun z => .tuple [.int z.1, .int z.2.1, .int z.2.2]) ≤ 1
 | [] => ⟨rfl, by simp [PyData.depthAll]⟩
 | c :: cs => by
  obtain ⟨a, b⟩ := lay_cs cs
  constructor
  ·simp [PyData.canLayAll0, PyData.canLay0, a]
  ·simp [PyData.depthAll, PyData.depth] at b ⊢
   omega
theorem lay_es : ∀ es : List Int, PyData.canLayAll0 (es.map PyData.int) = true ∧ PyData.depthAll (es.map PyData.int) = 0
 | [] => ⟨rfl, by simp [PyData.depthAll]⟩
 | c :: cs => by
  obtain ⟨a, b⟩ := lay_es cs
  constructor
  ·simp [PyData.canLayAll0, PyData.canLay0, a]
  ·simp [PyData.depthAll, PyData.depth, b]
theorem shaped_fld (cs : List P3) (es : List Int) : SeqAt.shaped (fieldData cs es) = true := by
 obtain ⟨a, b⟩ := lay_cs cs
 obtain ⟨c, d⟩ := lay_es es
 unfold SeqAt.shaped fieldData
 rw [Bool.and_eq_true, decide_eq_true_eq]
 constructor
 ·simp [PyData.canLay0, PyData.canLayAll0, a, c]
 ·simp [PyData.depth, PyData.depthAll, d]
  omega
noncomputable def fdOf (L : List Vx) : PyData := fieldData (L.map (·.1)) (L.map (·.2.2))
theorem FldAt.rdy {K : PySem.W.Frag} {H : Hp} {f c e : Addr} {ps : List Addr} {L : List Vx} (h : FldAt H f c e ps L) : Rdy K H (.ref f) (fdOf L) := rdy_fld h.at_ h.cs h.pt h.es
theorem fdOf_plain (L : List Vx) : plainD (fdOf L) = true := by
 unfold fdOf fieldData
 simp only [plainD, plainDs, Bool.and_true, Bool.and_eq_true]
 exact ⟨plainDs_map _ (fun a => by simp [plainD, plainDs]) _, plainDs_map _ (fun a => by simp [plainD]) _⟩
theorem arSum_pos : ∀ (l : List (P3 × P3)), (∀ e ∈ l, 0 < e.1.2.2 ∧ 0 < e.2.2.2) → 0 < (arSum l).2 := by
 have key : ∀ (l : List (P3 × P3)) (z : Int × Int), (∀ e ∈ l, 0 < e.1.2.2 ∧ 0 < e.2.2.2) → 0 < z.2 → 0 < (l.foldl arStep z).2 := by
  intro l
  induction l with
  | nil => exact fun z _ h => h
  | cons e l ih =>
   intro z h hz
   rw [List.foldl_cons]
   refine ih _ (fun e' he' => h e' (List.mem_cons_of_mem _ he')) ?_
   have := h e (by simp)
   unfold arStep
   exact Int.mul_pos hz (Int.mul_pos this.1 this.2)
 intro l h
 exact key l (0, 1) h (by decide)
theorem arD_poly {l : List Vx} (hP : Poly l) : arD l ≠ 0 := by
 have := arSum_pos ((l.map (·.1)).zip (rot (l.map (·.1)))) fun e he => by
  obtain ⟨h1, h2⟩ := List.of_mem_zip he
  obtain ⟨v, hv, e1⟩ := List.mem_map.mp h1
  have h2' : e.2 ∈ l.map (·.1) := by
   unfold rot at h2
   rcases List.mem_append.mp h2 with q | q
   ·exact List.mem_of_mem_drop q
   ·exact List.mem_of_mem_take q
  obtain ⟨w, hw, e2⟩ := List.mem_map.mp h2'
  rw [← e1, ← e2]
  exact ⟨hP.pos v hv, hP.pos w hw⟩
 unfold arD
 omega
noncomputable def TakeRow (rs : List P2) (s : P2) (x y u v : Int) (i : Nat) (o : Option (Int × Int)) : Prop := ∃ r L L' a b a' b', rs[i]? = some r ∧ Chain rs r (othersL rs.length i) (boxL x y u v) L ∧ StepL (lnB r s) (rs.length : Int) L L' ∧ IsFr (arN L) (arD L) a b ∧ IsFr (arN L') (arD L') a' b' ∧ (0 < b ∧ 0 < b') ∧ (arD L ≠ 0 ∧ arD L' ≠ 0) ∧ ((fdOf L' = fdOf L ∧ o = none) ∨ (fdOf L' ≠ fdOf L ∧ ∃ p q, IsFr (a * b' - a' * b) (b * b') p q ∧ o = some (p, q)))
noncomputable def rowsF : Nat → List (Option (Int × Int)) → List (Int × Int × Int)
 | _, [] => []
 | k, none :: r => rowsF (k + 1) r
 | k, some z :: r => ((k : Int), z.1, z.2) :: rowsF (k + 1) r
noncomputable def rowsL (os : List (Option (Int × Int))) : List (Int × Int × Int) := rowsF 0 os
noncomputable def rowO (k : Nat) (o : Option (Int × Int)) : List (Int × Int × Int) := match o with | none => [] | some z => [((k : Int), z.1, z.2)]
theorem rowsF_snoc (o : Option (Int × Int)) : ∀ (os : List (Option (Int × Int))) (k : Nat), rowsF k (os ++ [o]) = rowsF k os ++ rowO (k + os.length) o
 | [], k => by cases o <;> simp [rowsF, rowO]
 | none :: r, k => by
  rw [List.cons_append, rowsF, rowsF, rowsF_snoc o r (k + 1), List.length_cons, show k + 1 + r.length = k + (r.length + 1) by omega]
 | some z :: r, k => by
  rw [List.cons_append, rowsF, rowsF, rowsF_snoc o r (k + 1), List.length_cons, show k + 1 + r.length = k + (r.length + 1) by omega, List.cons_append]
theorem rowsL_snoc (os : List (Option (Int × Int))) (o : Option (Int × Int)) : rowsL (os ++ [o]) = rowsL os ++ rowO os.length o := by
 unfold rowsL
 rw [rowsF_snoc, Nat.zero_add]
noncomputable def RowAt (H : Hp) (t : Addr) (z : Int × Int × Int) : Prop := ∃ q, H t = some (.tup [.int z.1, .ref q]) ∧ H q = some (.tup [.int z.2.1, .int z.2.2])
noncomputable def RowsAt (H : Hp) (ts : List Addr) (zs : List (Int × Int × Int)) : Prop := ts.length = zs.length ∧ ∀ (i : Nat) (t : Addr) (z : Int × Int × Int), ts[i]? = some t → zs[i]? = some z → RowAt H t z
theorem RowsAt.ext {H H' : Hp} {ts : List Addr} {zs : List (Int × Int × Int)} (h : RowsAt H ts zs) (x : Ext H H') : RowsAt H' ts zs := ⟨h.1, fun i t z a b => by
 obtain ⟨q, h1, h2⟩ := h.2 i t z a b
 exact ⟨q, x _ _ h1, x _ _ h2⟩⟩
theorem RowsAt.setL {H : Hp} {ts : List Addr} {zs : List (Int × Int × Int)} {L : Addr} {xs ys : List V} (h : RowsAt H ts zs) (hL : H L = some (.lst xs)) : RowsAt (upd H L (.lst ys)) ts zs := ⟨h.1, fun i t z a b => by
 obtain ⟨q, h1, h2⟩ := h.2 i t z a b
 exact ⟨q, (upd_ne (ne_of h1 hL (by intro z; cases z))).trans h1, (upd_ne (ne_of h2 hL (by intro z; cases z))).trans h2⟩⟩
theorem RowsAt.snoc {H : Hp} {ts : List Addr} {zs : List (Int × Int × Int)} (h : RowsAt H ts zs) {t : Addr} {z : Int × Int × Int} (ht : RowAt H t z) : RowsAt H (ts ++ [t]) (zs ++ [z]) := by
 refine ⟨by rw [List.length_append, List.length_append, h.1]; rfl, fun i t' z' a b => ?_⟩
 by_cases hi : i < ts.length
 ·rw [List.getElem?_append_left hi] at a
  rw [List.getElem?_append_left (by rw [← h.1]; exact hi)] at b
  exact h.2 i t' z' a b
 ·rw [List.getElem?_append_right (by omega)] at a
  rw [List.getElem?_append_right (by rw [← h.1]; omega), ← h.1] at b
  have : i - ts.length = 0 := by
   have := (List.getElem?_eq_some_iff.mp a).1
   simp only [List.length_cons, List.length_nil] at this
   omega
  rw [this] at a b
  cases a
  cases b
  exact ht
structure MoreOk (H : Hp) (b l t : Addr) (x y u v : Int) (qs : List Addr) (rs : List P2) (s : P2) : Prop where
 ok : SpOk H b l x y u v qs rs
 sp : H t = some (.tup [.int s.1, .int s.2])
 nin : s ∉ rs
 ins : x ≤ s.1 ∧ s.1 ≤ u ∧ y ≤ s.2 ∧ s.2 ≤ v
 n11 : rs.length ≤ 11
 sm : Small x y u v (rs ++ [s])
theorem MoreOk.ext {H H' : Hp} {b l t : Addr} {x y u v : Int} {qs : List Addr} {rs : List P2} {s : P2} (h : MoreOk H b l t x y u v qs rs s) (e : Ext H H') : MoreOk H' b l t x y u v qs rs s := ⟨h.ok.ext e, e _ _ h.sp, h.nin, h.ins, h.n11, h.sm⟩
theorem MoreOk.more {H : Hp} {b l t l' : Addr} {x y u v : Int} {qs : List Addr} {rs : List P2} {s : P2} (h : MoreOk H b l t x y u v qs rs s) (hl : H l' = some (.lst ((qs ++ [t]).map V.ref))) : SpOk H b l' x y u v (qs ++ [t]) (rs ++ [s]) where
 bx := h.ok.bx
 sp := hl
 at_ := h.ok.at_.snoc h.sp
 xu := h.ok.xu
 yv := h.ok.yv
 ins := fun r hr => by
  rcases List.mem_append.mp hr with q | q
  ·exact h.ok.ins r q
  ·rw [List.mem_singleton] at q
   rw [q]
   exact h.ins
 nd := List.nodup_append.mpr ⟨h.ok.nd, by simp, fun a ha c hc e => by
  rw [List.mem_singleton] at hc
  subst hc
  subst e
  exact h.nin ha⟩
 n0 := by rw [List.length_append]; exact Nat.succ_pos _
 n12 := by
  have := h.n11
  rw [List.length_append]
  show _ + 1 ≤ _
  omega
 sz := h.ok.sz
theorem b30 {n : Int} (h : -(10 ^ 9 + 3) ≤ n ∧ n ≤ 10 ^ 9 + 3) : Bd 30 n := Bd.of_le (10 ^ 9 + 3) h.1 h.2 (by decide)
theorem MoreOk.lnb {H : Hp} {b l t : Addr} {x y u v : Int} {qs : List Addr} {rs : List P2} {s : P2} (h : MoreOk H b l t x y u v qs rs s) {i : Nat} {r : P2} (hi : rs[i]? = some r) {L : List Vx} (hL : LandOk x y u v rs r (othersL rs.length i) L) : LnB 64 L := by
 have sm := h.sm
 have b40 : ∀ {n : Int}, -(2 * 10 ^ 9) ≤ n → n ≤ 2 * 10 ^ 9 → Bd 40 n := fun h1 h2 => Bd.of_le (2 * 10 ^ 9) h1 h2 (by decide)
 have xu := h.ok.xu
 have yv := h.ok.yv
 have sr := sm.2 r (List.mem_append_left _ (List.mem_of_getElem? hi))
 refine lnb_small hL ⟨b40 (by have := sm.1; omega) (by have := sm.1; omega), b40 (by have := sm.1; omega) (by have := sm.1; omega), b40 (by have := sm.1; omega) (by have := sm.1; omega), b40 (by have := sm.1; omega) (by have := sm.1; omega)⟩ ⟨b30 sr.1, b30 sr.2⟩ (fun s' hs' => ?_) fun j hj s' hs' => nodup_ne h.ok.nd hi hs' (mem_othersL.mp hj).2
 have := sm.2 s' (List.mem_append_left _ hs')
 exact ⟨b30 this.1, b30 this.2⟩
theorem area_made {l : List Vx} (hP : Poly l) : ∃ a b, IsFr (arN l) (arD l) a b := by
 have h : arD l ≠ 0 := arD_poly hP
 exact ⟨_, _, isFr_of h⟩
theorem rowsF_len : ∀ (os : List (Option (Int × Int))) (k : Nat), (rowsF k os).length ≤ os.length
 | [], _ => Nat.le_refl _
 | none :: r, k => by
  rw [rowsF, List.length_cons]
  exact Nat.le_succ_of_le (rowsF_len r (k + 1))
 | some z :: r, k => by
  rw [rowsF, List.length_cons, List.length_cons]
  exact Nat.succ_le_succ (rowsF_len r (k + 1))
theorem rowsL_len (os : List (Option (Int × Int))) : (rowsL os).length ≤ os.length := rowsF_len os 0
theorem arD_ne {l : List Vx} {a b : Int} (h : IsFr (arN l) (arD l) a b) : arD l ≠ 0 := fun z => by
 have := h.lc
 have := h.pos
 rw [z] at *
 simp at *
 omega
inductive Vt where
 | fine | box | many
 | spot (i : Nat)
noncomputable def cnt (rs : List P2) : Prop := 0 < rs.length ∧ rs.length ≤ 12
noncomputable def IsVt (x y u v : Int) (rs : List P2) (s : P2) : Vt → Prop
 | .box => ¬ (x < u ∧ y < v)
 | .many => (x < u ∧ y < v) ∧ (¬ cnt rs ∨ (cnt rs ∧ AllOk x y u v rs ∧ ¬ cnt (rs ++ [s])))
 | .spot i => (x < u ∧ y < v) ∧ cnt rs ∧ (FirstBad x y u v rs i ∨ (AllOk x y u v rs ∧ cnt (rs ++ [s]) ∧ FirstBad x y u v (rs ++ [s]) i))
 | .fine => (x < u ∧ y < v) ∧ cnt rs ∧ AllOk x y u v rs ∧ cnt (rs ++ [s]) ∧ AllOk x y u v (rs ++ [s])
theorem FirstBad.uniq {x y u v : Int} {rs : List P2} {i j : Nat} (h : FirstBad x y u v rs i) (k : FirstBad x y u v rs j) : i = j := by
 rcases Nat.lt_trichotomy i j with z | z | z
 ·exact absurd h.1 (k.2 i z)
 ·exact z
 ·exact absurd k.1 (h.2 j z)
theorem IsVt.uniq {x y u v : Int} {rs : List P2} {s : P2} {a b : Vt} (h : IsVt x y u v rs s a) (k : IsVt x y u v rs s b) : a = b := by
 cases a <;> cases b <;> simp only [IsVt] at h k <;> first
  | rfl
  | (exfalso; exact h k.1)
  | (exfalso; exact k h.1)
  | skip
 ·obtain ⟨_, c, o, c2, o2⟩ := h
  obtain ⟨_, q | ⟨_, _, q⟩⟩ := k
  ·exact absurd c q
  ·exact absurd c2 q
 ·obtain ⟨_, c, o, c2, o2⟩ := h
  obtain ⟨_, _, q | ⟨_, _, q⟩⟩ := k
  ·exact absurd q.1 (o _)
  ·exact absurd q.1 (o2 _)
 ·obtain ⟨_, c, o, c2, o2⟩ := k
  obtain ⟨_, q | ⟨_, _, q⟩⟩ := h
  ·exact absurd c q
  ·exact absurd c2 q
 ·obtain ⟨_, q | ⟨c, o, q⟩⟩ := h
  ·exact absurd k.2.1 q
  ·obtain ⟨_, _, f | ⟨_, c2, _⟩⟩ := k
   ·exact absurd f.1 (o _)
   ·exact absurd c2 q
 ·obtain ⟨_, c, o, c2, o2⟩ := k
  obtain ⟨_, _, q | ⟨_, _, q⟩⟩ := h
  ·exact absurd q.1 (o _)
  ·exact absurd q.1 (o2 _)
 ·obtain ⟨_, q | ⟨c, o, q⟩⟩ := k
  ·exact absurd h.2.1 q
  ·obtain ⟨_, _, f | ⟨_, c2, _⟩⟩ := h
   ·exact absurd f.1 (o _)
   ·exact absurd c2 q
 ·obtain ⟨_, _, f | ⟨o, _, f⟩⟩ := h <;> obtain ⟨_, _, g | ⟨o', _, g⟩⟩ := k
  ·rw [f.uniq g]
  ·exact absurd f.1 (o' _)
  ·exact absurd g.1 (o _)
  ·rw [f.uniq g]
noncomputable def vtV : Vt → List V
 | .fine => [.str "", .non]
 | .box => [.str "box", .non]
 | .many => [.str "many", .non]
 | .spot i => [.str "spot", .int (i : Int)]
noncomputable def vtD : Vt → PyData
 | .fine => .tuple [.str "", .none]
 | .box => .tuple [.str "box", .none]
 | .many => .tuple [.str "many", .none]
 | .spot i => .tuple [.str "spot", .int (i : Int)]
theorem vt_rdy {K : PySem.W.Frag} {H : Hp} {t : Addr} {a : Vt} (h : H t = some (.tup (vtV a))) : Rdy K H (.ref t) (vtD a) := by
 cases a
 ·exact .tup (SqT.of h) (.cons (.str _) (.cons .non .nil))
 ·exact .tup (SqT.of h) (.cons (.str _) (.cons .non .nil))
 ·exact .tup (SqT.of h) (.cons (.str _) (.cons .non .nil))
 ·exact .tup (SqT.of h) (.cons (.str _) (.cons (.int _) .nil))
theorem so1 : PyData.strOk "" = true := by decide +kernel
theorem so2 : PyData.strOk "box" = true := by decide +kernel
theorem so3 : PyData.strOk "many" = true := by decide +kernel
theorem so4 : PyData.strOk "spot" = true := by decide +kernel
theorem vt_shaped (a : Vt) : SeqAt.shaped (vtD a) = true := by cases a <;> simp only [vtD, SeqAt.shaped, PyData.canLay0, PyData.canLayAll0, PyData.depth, PyData.depthAll, so1, so2, so3, so4] <;> decide
theorem vt_self (a : Vt) : PyData.eqv (vtD a) (vtD a) = true := by cases a <;> simp [vtD, PyData.eqv, PyData.eqvAll]
noncomputable def sp_takesE (K : PySem.W.Frag) (C : Cz) : Sp := fun vs H Q E => ∃ (b l t : Addr) (x y u v : Int) (qs : List Addr) (rs : List P2) (s : P2), vs = [.ref b, .ref l, .ref t] ∧ BxOk H b l x y u v qs rs ∧ H t = some (.tup [.int s.1, .int s.2]) ∧ Small x y u v (rs ++ [s]) ∧ rs.length < 90000 ∧
 (IsVt x y u v rs s .box → ∀ H', Ext H H' → E (.ref C.NoBox) none H') ∧ (IsVt x y u v rs s .many → ∀ H', Ext H H' → E (.ref C.TooMany) none H') ∧
 (∀ i, IsVt x y u v rs s (.spot i) → ∀ H' dx, Ext H H' → H' dx = none → E (.ref C.NoSpot) (some dx) (upd H' dx (.xd [("at", .int (i : Int))]))) ∧ (IsVt x y u v rs s .fine → ∀ w H', Ext H H' → Q w H')
noncomputable def sp_feed (K : PySem.W.Frag) : Sp := fun vs H Q _ => ∃ (a : Addr) (ns : List Int) (k : Int), vs = [.ref a, .int k] ∧ SqL K H a (ns.map V.int) ∧ ∀ p x y z, H p = none → Q (.ref p) (upd H p (.lst [.int x, .int y, .int z]))
noncomputable def sp_next : Sp := fun vs H Q _ => ∃ (p : Addr) (m : Int), vs = [.ref p, .int m] ∧ Feed H p ∧ 0 < m ∧ m < 10000000000000000000000000000000000000000 ∧ ∀ r H', 0 ≤ r → r < m → FX p H H' → Q (.int r) H'
noncomputable def KvOk (kvs : List (List Key × V)) : Prop := (kvs.map (·.1)).Nodup ∧ ∀ kv ∈ kvs, ∃ x y : Int, kv.1 = [Sum.inl x, Sum.inl y] ∧ (-(10 ^ 9) ≤ x ∧ x ≤ 10 ^ 9) ∧ (-(10 ^ 9) ≤ y ∧ y ≤ 10 ^ 9)
theorem KvOk.put {kvs : List (List Key × V)} (h : KvOk kvs) {x y : Int} (hx : -(10 ^ 9) ≤ x ∧ x ≤ 10 ^ 9) (hy : -(10 ^ 9) ≤ y ∧ y ≤ 10 ^ 9) (v : V) : KvOk (putK kvs [Sum.inl x, Sum.inl y] v) ∧ 0 < (putK kvs [Sum.inl x, Sum.inl y] v).length := by
 cases e : valV kvs [Sum.inl x, Sum.inl y] with
 | none =>
  rw [putK_new v e]
  refine ⟨⟨?_, ?_⟩, by rw [List.length_append]; exact Nat.succ_pos _⟩
  ·have := nd_putK v h.1 e
   rw [putK_new v e] at this
   exact this
  ·intro kv hk
   rcases List.mem_append.mp hk with q | q
   ·exact h.2 kv q
   ·obtain rfl : kv = ([Sum.inl x, Sum.inl y], v) := by simpa using q
    exact ⟨x, y, rfl, hx, hy⟩
 | some w =>
  have hany : (kvs.any fun kv => decide (kv.1 = [Sum.inl x, Sum.inl y])) = true := by rw [valV_any, e]; rfl
  have e2 : putK kvs [Sum.inl x, Sum.inl y] v = kvs.map (fun kv => if kv.1 = [Sum.inl x, Sum.inl y] then (kv.1, v) else kv) := if_pos hany
  have keys : (kvs.map (fun kv => if kv.1 = [Sum.inl x, Sum.inl y] then (kv.1, v) else kv)).map (·.1) = kvs.map (·.1) := by
   rw [List.map_map]
   apply List.map_congr_left
   intro kv _
   show (if kv.1 = [Sum.inl x, Sum.inl y] then (kv.1, v) else kv).1 = kv.1
   split <;> rfl
  rw [e2]
  refine ⟨⟨by rw [keys]; exact h.1, fun kv hk => ?_⟩, ?_⟩
  ·obtain ⟨kv', hk', rfl⟩ := List.mem_map.mp hk
   split
   ·exact h.2 kv' hk'
   ·exact h.2 kv' hk'
  ·rw [List.length_map]
   cases kvs with
   | nil => cases e
   | cons _ _ => exact Nat.succ_pos _
noncomputable def kXY (kv : List Key × V) : P2 := match kv.1 with
 | [Sum.inl x, Sum.inl y] => (x, y)
 | _ => (0, 0)
structure BxIn (x y u v : Int) : Prop where
 x0 : -60 ≤ x ∧ x ≤ 60
 y0 : -60 ≤ y ∧ y ≤ 60
 u0 : x + 3 ≤ u ∧ u ≤ x + 8
 v0 : y + 3 ≤ v ∧ v ≤ y + 8
noncomputable def Nigh (rs : List P2) : Prop := ∀ r ∈ rs, (-200 ≤ r.1 ∧ r.1 ≤ 200) ∧ (-200 ≤ r.2 ∧ r.2 ≤ 200)
noncomputable def KvN (kvs : List (List Key × V)) : Prop := KvOk kvs ∧ Nigh (kvs.map kXY)
theorem KvN.put {kvs : List (List Key × V)} (h : KvN kvs) {x y : Int} (hx : -200 ≤ x ∧ x ≤ 200) (hy : -200 ≤ y ∧ y ≤ 200) (w : V) : KvN (putK kvs [Sum.inl x, Sum.inl y] w) := by
 obtain ⟨h1, h2⟩ := h
 refine ⟨(h1.put (by omega) (by omega) w).1, fun r hr => ?_⟩
 obtain ⟨kv, hk, rfl⟩ := List.mem_map.mp hr
 cases e : valV kvs [Sum.inl x, Sum.inl y] with
 | none =>
  rw [putK_new w e] at hk
  rcases List.mem_append.mp hk with q | q
  ·exact h2 _ (List.mem_map.mpr ⟨kv, q, rfl⟩)
  ·obtain rfl : kv = ([Sum.inl x, Sum.inl y], w) := by simpa using q
   exact ⟨hx, hy⟩
 | some z =>
  have hany : (kvs.any fun kv => decide (kv.1 = [Sum.inl x, Sum.inl y])) = true := by rw [valV_any, e]; rfl
  rw [show putK kvs [Sum.inl x, Sum.inl y] w = kvs.map (fun kv => if kv.1 = [Sum.inl x, Sum.inl y] then (kv.1, w) else kv) from if_pos hany] at hk
  obtain ⟨kv', hk', rfl⟩ := List.mem_map.mp hk
  have := h2 _ (List.mem_map.mpr ⟨kv', hk', rfl⟩)
  split
  ·exact this
  ·exact this
theorem kv_key {kvs : List (List Key × V)} (h : KvOk kvs) {i : Nat} {kv : List Key × V} (hi : kvs[i]? = some kv) : kv.1 = [Sum.inl (kXY kv).1, Sum.inl (kXY kv).2] := by
 obtain ⟨x1, y1, e, _⟩ := h.2 kv (List.mem_of_getElem? hi)
 obtain ⟨k1, v1⟩ := kv
 dsimp only at e
 subst e
 rfl
theorem R2At.cons {H : Hp} {qs : List Addr} {rs : List P2} {q : Addr} {r : P2} (e : H q = some (.tup [.int r.1, .int r.2])) (h : R2At H qs rs) : R2At H (q :: qs) (r :: rs) := by
 refine ⟨by rw [List.length_cons, List.length_cons, h.1], fun i q' r' h1 h2 => ?_⟩
 cases i with
 | zero => cases h1; cases h2; exact e
 | succ i => exact h.2 i q' r' h1 h2
theorem R2At.nil {H : Hp} : R2At H [] [] := ⟨rfl, fun i q r a => by simp at a⟩
theorem R2At.app {H : Hp} {qs qs' : List Addr} {rs rs' : List P2} (h : R2At H qs rs) (k : R2At H qs' rs') : R2At H (qs ++ qs') (rs ++ rs') := by
 refine ⟨by rw [List.length_append, List.length_append, h.1, k.1], fun i q r h1 h2 => ?_⟩
 by_cases hi : i < qs.length
 ·rw [List.getElem?_append_left hi] at h1
  rw [List.getElem?_append_left (by rw [← h.1]; exact hi)] at h2
  exact h.2 i q r h1 h2
 ·rw [List.getElem?_append_right (by omega)] at h1
  rw [List.getElem?_append_right (by rw [← h.1]; omega), ← h.1] at h2
  exact k.2 _ q r h1 h2
theorem R2At.rep {H : Hp} {qs : List Addr} {rs : List P2} (h : R2At H qs rs) : ∀ k : Nat, R2At H (List.replicate k qs).flatten (List.replicate k rs).flatten
 | 0 => R2At.nil
 | k + 1 => by
  rw [List.replicate_succ, List.replicate_succ, List.flatten_cons, List.flatten_cons]
  exact h.app (R2At.rep h k)
theorem rep_map (qs : List Addr) : ∀ k : Nat, (List.replicate k (qs.map V.ref)).flatten = ((List.replicate k qs).flatten).map V.ref
 | 0 => rfl
 | k + 1 => by rw [List.replicate_succ, List.replicate_succ, List.flatten_cons, List.flatten_cons, List.map_append, rep_map qs k]
theorem rep_mem {rs : List P2} {r : P2} : ∀ {k : Nat}, r ∈ (List.replicate k rs).flatten → r ∈ rs
 | 0, h => by simp at h
 | k + 1, h => by
  rw [List.replicate_succ, List.flatten_cons] at h
  rcases List.mem_append.mp h with q | q
  ·exact q
  ·exact rep_mem q
theorem Nigh.app {rs rs' : List P2} (h : Nigh rs) (k : Nigh rs') : Nigh (rs ++ rs') := fun r hr => (List.mem_append.mp hr).elim (h r) (k r)
theorem Nigh.one {a b : Int} (h1 : -200 ≤ a ∧ a ≤ 200) (h2 : -200 ≤ b ∧ b ≤ 200) : Nigh [(a, b)] := fun r hr => by rw [List.mem_singleton.mp hr]; exact ⟨h1, h2⟩
noncomputable def sp_spots (K : PySem.W.Frag) : Sp := fun vs H Q _ => ∃ (p b : Addr) (x y u v : Int), vs = [.ref p, .ref b] ∧ Feed H p ∧ H b = some (.tup [.int x, .int y, .int u, .int v]) ∧ BxIn x y u v ∧ ∀ l qs rs H', FX p H H' → H' l = some (.lst (qs.map V.ref)) → R2At H' qs rs → rs.length ≤ 200 → Nigh rs → l ≠ p → Q (.ref l) H'
noncomputable def sp_full (K : PySem.W.Frag) : Sp := fun vs H Q _ => ∃ (p b : Addr) (x y u v : Int), vs = [.ref p, .ref b] ∧ Feed H p ∧ H b = some (.tup [.int x, .int y, .int u, .int v]) ∧ BxIn x y u v ∧ ∀ l qs rs H', FX p H H' → H' l = some (.lst (qs.map V.ref)) → R2At H' qs rs → rs.length ≤ 200 → Nigh rs → l ≠ p → Q (.ref l) H'
noncomputable def sp_due (K : PySem.W.Frag) : Sp := fun vs H Q _ => ∃ (b l t : Addr) (x y u v : Int) (qs : List Addr) (rs : List P2) (s : P2), vs = [.ref b, .ref l, .ref t] ∧ BxOk H b l x y u v qs rs ∧ H t = some (.tup [.int s.1, .int s.2]) ∧ rs.length < 90000 ∧
 ∀ a w H', IsVt x y u v rs s a → Ext H H' → H' w = some (.tup (vtV a)) → Q (.ref w) H'
noncomputable def sp_told (K : PySem.W.Frag) : Sp := fun vs H Q _ => ∃ (b l t : Addr) (x y u v : Int) (qs : List Addr) (rs : List P2) (s : P2), vs = [.ref b, .ref l, .ref t] ∧ BxOk H b l x y u v qs rs ∧ H t = some (.tup [.int s.1, .int s.2]) ∧ Small x y u v (rs ++ [s]) ∧ rs.length < 90000 ∧
 ∀ a w H', IsVt x y u v rs s a → Ext H H' → H' w = some (.tup (vtV a)) → Q (.ref w) H'
noncomputable def sp_law (K : PySem.W.Frag) : Sp := fun vs H Q _ => ∃ (a : Addr) (ns : List Int), vs = [.ref a] ∧ SqL K H a (ns.map V.int) ∧ ns.length ≤ 63 ∧ ∀ H', Q (.bl true) H'
theorem fx_r2 {p : Addr} {H H' : Hp} (f : FX p H H') (hf : Feed H p) {qs : List Addr} {rs : List P2} (h : R2At H qs rs) : R2At H' qs rs := ⟨h.1, fun i q r a b => by
 obtain ⟨a1, a2, a3, e⟩ := hf
 exact f.keep q _ (ne_of (h.2 i q r a b) e (by intro z; cases z)) (h.2 i q r a b)⟩
theorem fx_tup3 {p q : Addr} {H H' : Hp} {xs : List V} (f : FX p H H') (hf : Feed H p) (h : H q = some (.tup xs)) : H' q = some (.tup xs) := by
 obtain ⟨_, _, _, ef⟩ := hf
 exact f.keep q _ (ne_of h ef (by intro z; cases z)) h
end LW
namespace LW
open PySem L2 MA PyProof.Rows MC
section
variable {P : Program} {w : World} {K : PySem.W.Frag} {mg : Str → Option Value} {base : Heap}
theorem sc_divisor : FnScope ["one", "other"] ["one", "other"] (defScope s_divisor) := ⟨rfl, rfl, rfl, by decide +kernel, rfl, by decide +kernel, by decide +kernel⟩
set_option maxHeartbeats 0 in
theorem ok_divisor {C : Cz} {f : Addr} {fd : FuncData} (F : Fun K "divisor" "divisor" s_divisor f fd) (T : Txt P K mg C)  : FnOk P w K mg base (CXE P w) 1 f fd ["one", "other"] sp_divisor := by
 refine okN F (k := 0) sc_divisor (fun vs H Q E h => ?_) (fun cdv A outer s H vs Q E hr h => ?_)
 ·obtain ⟨a, b, rfl, _⟩ := h
  rfl
 ·obtain ⟨a, b, rfl, h⟩ := h
  refine' ⟨_, ?main, ?rest⟩
  case main =>
   refine' pss_cons ?c1 ?c2
   case' c1 => refine' ps_set (i := 0) sc_divisor.nd rfl (Or.inl rfl) ?c3
   case' c3 => refine' pe_callB call_abs (by rfl) T.b_abs boot_abs ?c4
   case' c4 => exact (pa_cons (pvF 0) pa_nil)
   case' c2 => refine' pss_cons ?c5 ?c6
   case' c5 => refine' ps_set (i := 1) sc_divisor.nd rfl (Or.inl rfl) ?c7
   case' c7 => refine' pe_callB call_abs (by rfl) T.b_abs boot_abs ?c8
   case' c8 => exact (pa_cons (pvF 1) pa_nil)
   case' c6 => refine' pss_cons ?c9 ?c10
   case' c9 => refine' ps_while PassesOwn.never ?c11 ?c12
   case' c11 => exact (pt_cmpF op_neI (pvF 1) pe_int (nomark _))
   case' c12 => refine' pss_one ?c13
   case' c13 => refine' ps_par (i := 0) (j := 1) rfl sc_divisor.nd rfl rfl (by decide) rfl rfl ?c14 rfl
   case' c14 => refine' pa_cons (pvF 1) ?c15
   case' c15 => exact (pa_cons (pe_op (OpR.f op_mod) (pvF 0) (pvF 1)) pa_nil)
   case' c10 => exact (pss_one (ps_ret (pvF 0)))
  case rest =>
   simp only [L2.start, List.map_cons, List.map_nil, List.length_cons, List.length_nil, Nat.reduceAdd, Nat.reduceSub, List.replicate_succ, List.replicate_zero, List.cons_append, List.nil_append, List.append_nil]
   o_head ⟨tRaiseN, tAt, tTryN⟩
   refine ⟨fun m σ H' => ∃ x y : Int, σ = [some (.int x), some (.int y)] ∧ H' = H ∧ 0 ≤ x ∧ 0 ≤ y ∧ Int.gcd x y = Int.gcd a b ∧ m = y.toNat, ⟨_, _, _, rfl, rfl, ?_, ?_, ?_, rfl⟩, ?_⟩
   ·show 0 ≤ ab a
    rw [ab_eq]; omega
   ·show 0 ≤ ab b
    rw [ab_eq]; omega
   ·show Int.gcd (ab a) (ab b) = _
    rw [ab_eq, ab_eq, gcd_abs_left, gcd_abs_right]
   ·rintro m σ H' ⟨x, y, rfl, rfl, hx, hy, hg, rfl⟩
    o_head ⟨tRaiseN, tAt, tTryN⟩
    by_cases hy0 : y = 0
    ·subst hy0
     rw [if_neg (by simp)]
     have e := gcd_zero hx
     rw [hg] at e
     rw [e] at h
     exact h
    ·rw [if_pos (by simpa using hy0)]
     have hp : 0 < y := by omega
     refine ⟨fun σ' H1 => ∃ x y' : Int, σ' = [some (.int x), some (.int y')] ∧ H1 = H' ∧ 0 ≤ x ∧ 0 ≤ y' ∧ Int.gcd x y' = Int.gcd a b ∧ y' < y, ?_, ?_⟩
     ·rintro σ' H1 ⟨x, y', rfl, rfl, h1, h2, h3, h4⟩
      exact ⟨y'.toNat, by omega, x, y', rfl, rfl, h1, h2, h3, rfl⟩
     ·o_head ⟨tRaiseN, tAt, tTryN⟩
      exact ⟨hp, hy, Int.emod_nonneg _ hy0, by rw [gcd_step hp]; exact hg, Int.emod_lt_of_pos _ hp⟩
end
end LW
namespace LW
open PySem L2 MA PyProof.Rows MC
section
variable {P : Program} {w : World} {K : PySem.W.Frag} {mg : Str → Option Value} {base : Heap}
theorem sc_sign : FnScope ["number"] ["number"] (defScope s_sign) := ⟨rfl, rfl, rfl, by decide +kernel, rfl, by decide +kernel, by decide +kernel⟩
set_option maxHeartbeats 0 in
theorem ok_sign {C : Cz} {f : Addr} {fd : FuncData} (F : Fun K "sign" "sign" s_sign f fd) (T : Txt P K mg C)  : FnOk P w K mg base (CXE P w) 1 f fd ["number"] sp_sign := by
 refine okN F (k := 0) sc_sign (fun vs H Q E h => ?_) (fun cdv A outer s H vs Q E hr h => ?_)
 ·obtain ⟨n, rfl, _⟩ := h
  rfl
 ·obtain ⟨n, rfl, h⟩ := h
  refine' ⟨_, ?main, ?rest⟩
  case main =>
   refine' pss_cons ?c1 ?c2
   case' c1 => refine' ps_if ?c3 ?c4 pss_nil
   case' c3 => exact (pt_cmpF (OpR.f0 op_lt) (pvF 0) pe_int (nomark _))
   case' c4 => refine' pss_one ?c5
   case' c5 => refine' ps_ret ?c6
   case' c6 => exact (pe_un (UnR.f un_neg) pe_int)
   case' c2 => refine' pss_cons ?c7 ?c8
   case' c7 => refine' ps_if ?c9 ?c10 pss_nil
   case' c9 => exact (pt_cmpF (OpR.f0 op_gt) (pvF 0) pe_int (nomark _))
   case' c10 => refine' pss_one ?c11
   case' c11 => exact (ps_ret pe_int)
   case' c8 => refine' pss_one ?c12
   case' c12 => exact (ps_ret pe_int)
  case rest =>
   simp only [L2.start, List.map_cons, List.map_nil, List.length_cons, List.length_nil, Nat.reduceAdd, Nat.reduceSub, List.replicate_succ, List.replicate_zero, List.cons_append, List.nil_append, List.append_nil]
   o_head ⟨tRaiseN, tAt, tTryN⟩
   unfold sgn at h
   split
   ·rename_i z
    rw [if_pos z] at h
    exact h
   ·rename_i z
    rw [if_neg z] at h
    split
    ·rename_i z
     rw [if_pos z] at h
     exact h
    ·rename_i z
     rw [if_neg z] at h
     exact h
end
end LW
namespace LW
open PySem L2 MA PyProof.Rows MC
section
variable {P : Program} {w : World} {K : PySem.W.Frag} {mg : Str → Option Value} {base : Heap}
theorem sc_point_of : FnScope ["x", "y", "w", "common"] ["x", "y", "w"] (defScope s_point_of) := ⟨rfl, rfl, rfl, by decide +kernel, rfl, by decide +kernel, by decide +kernel⟩
set_option maxHeartbeats 0 in
theorem ok_point_of {C : Cz} {f : Addr} {fd : FuncData} (F : Fun K "point_of" "point_of" s_point_of f fd) (T : Txt P K mg C) (F_divisor : FnB P w K mg base (CXE P w) 1 "divisor" ["one", "other"] sp_divisor) (F_sign : FnB P w K mg base (CXE P w) 1 "sign" ["number"] sp_sign) : FnOk P w K mg base (CXE P w) 2 f fd ["x", "y", "w"] sp_point_of := by
 refine okN F (k := 1) sc_point_of (fun vs H Q E h => ?_) (fun cdv A outer s H vs Q E hr h => ?_)
 ·obtain ⟨x, y, u, rfl, _⟩ := h
  rfl
 ·obtain ⟨x, y, u, rfl, h⟩ := h
  refine' ⟨_, ?main, ?rest⟩
  case main =>
   refine' pss_cons ?c1 ?c2
   case' c1 => refine' ps_if ?c3 ?c4 pss_nil
   case' c3 => exact (pt_cmpF op_eqI (pvF 2) pe_int (nomark _))
   case' c4 => exact (pss_one ps_never)
   case' c2 => refine' pss_cons ?c5 ?c6
   case' c5 => refine' ps_set (i := 3) ?c7 ?c8 ?c9 ?c10
   case c7 => exact sc_point_of.nd
   case c8 => exact rfl
   case c9 => exact (Or.inl rfl)
   case' c10 => refine' pe_op ?c11 ?c12 ?c13
   case c11 => exact (OpR.f op_mulA)
   case' c12 => refine' pe_fn F_divisor (hr.mono (by decide)) rfl passE0 ?c14
   case' c14 => refine' pa_cons ?c15 ?c16
   case' c15 => refine' pe_fn F_divisor (hr.mono (by decide)) rfl passE0 ?c17
   case' c17 => refine' pa_cons (pvF 2) ?c18
   case' c18 => exact (pa_cons (pvF 0) pa_nil)
   case' c16 => exact (pa_cons (pvF 1) pa_nil)
   case' c13 => refine' pe_fn F_sign (hr.mono (by decide)) rfl passE0 ?c19
   case' c19 => exact (pa_cons (pvF 2) pa_nil)
   case' c6 => refine' pss_one ?c20
   case' c20 => refine' ps_ret ?c21
   case' c21 => refine' pe_tup ?c22
   case' c22 => refine' pa_cons (pe_op (OpR.f op_fdivB) (pvF 0) (pvF 3)) ?c23
   case' c23 => refine' pa_cons (pe_op (OpR.f op_fdivB) (pvF 1) (pvF 3)) ?c24
   case' c24 => exact (pa_cons (pe_op (OpR.f op_fdivB) (pvF 2) (pvF 3)) pa_nil)
  case rest =>
   obtain ⟨hw, hb, h⟩ := h
   simp only [L2.start, List.map_cons, List.map_nil, List.length_cons, List.length_nil, Nat.reduceAdd, Nat.reduceSub, List.replicate_succ, List.replicate_zero, List.cons_append, List.nil_append, List.append_nil]
   rw [tSeq] 
   o_head ⟨tRaiseN, tAt, tTryN, sp_divisor, sp_sign, hw⟩
   have hc : com x y u = (Int.gcd (Int.gcd u x) y : Int) * sgn u := rfl
   rw [← hc]
   have h1 : com x y u ≠ 0 := com_ne hw
   have h2 : Bd 9000 (com x y u) := by
    refine Bd.mono (m := 8000) ?_ (by decide)
    have := (com_dvd x y u hw).2.2
    exact Nat.lt_of_le_of_lt (Nat.le_of_dvd (by omega) (Int.natAbs_dvd_natAbs.mpr this)) hb
   refine ⟨.inl (.inr ?_), h1, h2, h1, h2, h1, h2, by decide, fun p hp => h p _ _ _ hp (isPt_of hw)⟩
   rcases sgn_range u with e | e | e <;> rw [e] <;> decide
end
end LW
namespace LW
open PySem L2 MA PyProof.Rows MC
section
variable {P : Program} {w : World} {K : PySem.W.Frag} {mg : Str → Option Value} {base : Heap}
theorem sc_spot_point : FnScope ["spot"] ["spot"] (defScope s_spot_point) := ⟨rfl, rfl, rfl, by decide +kernel, rfl, by decide +kernel, by decide +kernel⟩
set_option maxHeartbeats 0 in
theorem ok_spot_point {C : Cz} {f : Addr} {fd : FuncData} (F : Fun K "spot_point" "spot_point" s_spot_point f fd) (T : Txt P K mg C)  : FnOk P w K mg base (CXE P w) 1 f fd ["spot"] sp_spot_point := by
 refine okN F (k := 0) sc_spot_point (fun vs H Q E h => ?_) (fun cdv A outer s H vs Q E hr h => ?_)
 ·obtain ⟨p, a, b, rfl, _⟩ := h
  rfl
 ·obtain ⟨p, a, b, rfl, h⟩ := h
  refine' ⟨_, ?main, ?rest⟩
  case main =>
   refine' pss_one ?c1
   case' c1 => refine' ps_ret ?c2
   case' c2 => refine' pe_tup ?c3
   case' c3 => refine' pa_cons ?c4 ?c5
   case' c4 => exact (pe_ix ix_F (pvF 0) pe_int (fun _ _ => rfl))
   case' c5 => refine' pa_cons ?c6 ?c7
   case' c6 => exact (pe_ix ix_F (pvF 0) pe_int (fun _ _ => rfl))
   case' c7 => exact (pa_cons pe_int pa_nil)
  case rest =>
   obtain ⟨hp, h⟩ := h
   simp only [L2.start, List.map_cons, List.map_nil, List.length_cons, List.length_nil, Nat.reduceAdd, Nat.reduceSub, List.replicate_succ, List.replicate_zero, List.cons_append, List.nil_append, List.append_nil]
   o_head ⟨tRaiseN, tAt, tTryN, hp⟩
   exact ⟨by decide, h⟩
end
end LW
namespace LW
open PySem L2 MA PyProof.Rows MC
section
variable {P : Program} {w : World} {K : PySem.W.Frag} {mg : Str → Option Value} {base : Heap}
theorem sc_fraction_of : FnScope ["top", "bottom", "common"] ["top", "bottom"] (defScope s_fraction_of) := ⟨rfl, rfl, rfl, by decide +kernel, rfl, by decide +kernel, by decide +kernel⟩
set_option maxHeartbeats 0 in
theorem ok_fraction_of {C : Cz} {f : Addr} {fd : FuncData} (F : Fun K "fraction_of" "fraction_of" s_fraction_of f fd) (T : Txt P K mg C) (F_divisor : FnB P w K mg base (CXE P w) 1 "divisor" ["one", "other"] sp_divisor) (F_sign : FnB P w K mg base (CXE P w) 1 "sign" ["number"] sp_sign) : FnOk P w K mg base (CXE P w) 2 f fd ["top", "bottom"] sp_fraction_of := by
 refine okN F (k := 1) sc_fraction_of (fun vs H Q E h => ?_) (fun cdv A outer s H vs Q E hr h => ?_)
 ·obtain ⟨x, u, rfl, _⟩ := h
  rfl
 ·obtain ⟨x, u, rfl, h⟩ := h
  refine' ⟨_, ?main, ?rest⟩
  case main =>
   refine' pss_cons ?c1 ?c2
   case' c1 => refine' ps_if ?c3 ?c4 pss_nil
   case' c3 => exact (pt_cmpF op_eqI (pvF 1) pe_int (nomark _))
   case' c4 => exact (pss_one ps_never)
   case' c2 => refine' pss_cons ?c5 ?c6
   case' c5 => refine' ps_set (i := 2) sc_fraction_of.nd rfl (Or.inl rfl) ?c7
   case' c7 => refine' pe_op (OpR.f op_mulA) ?c8 ?c9
   case' c8 => refine' pe_fn F_divisor (hr.mono (by decide)) rfl passE0 ?c10
   case' c10 => refine' pa_cons (pvF 1) ?c11
   case' c11 => exact (pa_cons (pvF 0) pa_nil)
   case' c9 => refine' pe_fn F_sign (hr.mono (by decide)) rfl passE0 ?c12
   case' c12 => exact (pa_cons (pvF 1) pa_nil)
   case' c6 => refine' pss_one ?c13
   case' c13 => refine' ps_ret ?c14
   case' c14 => refine' pe_tup ?c15
   case' c15 => refine' pa_cons (pe_op (OpR.f op_fdivB) (pvF 0) (pvF 2)) ?c16
   case' c16 => exact (pa_cons (pe_op (OpR.f op_fdivB) (pvF 1) (pvF 2)) pa_nil)
  case rest =>
   obtain ⟨hw, hb, h⟩ := h
   simp only [L2.start, List.map_cons, List.map_nil, List.length_cons, List.length_nil, Nat.reduceAdd, Nat.reduceSub, List.replicate_succ, List.replicate_zero, List.cons_append, List.nil_append, List.append_nil]
   o_head ⟨tRaiseN, tAt, tTryN, sp_divisor, sp_sign, hw⟩
   have hc : com x 0 u = (Int.gcd u x : Int) * sgn u := by unfold com; simp
   rw [← hc]
   have h1 : com x 0 u ≠ 0 := com_ne hw
   have h2 : Bd 9000 (com x 0 u) := by
    have := (com_dvd x 0 u hw).2.2
    exact Nat.lt_of_le_of_lt (Nat.le_of_dvd (by omega) (Int.natAbs_dvd_natAbs.mpr this)) hb
   have h3 := isFr_of (x := x) hw
   rw [← hc] at h3
   refine ⟨.inl (.inr ?_), h1, h2, h1, h2, by decide, fun p hp => h p _ _ hp h3⟩
   rcases sgn_range u with e | e | e <;> rw [e] <;> decide
end
end LW
namespace LW
open PySem L2 MA PyProof.Rows MC
section
variable {P : Program} {w : World} {K : PySem.W.Frag} {mg : Str → Option Value} {base : Heap}
theorem sc_difference : FnScope ["one", "other"] ["one", "other"] (defScope s_difference) := ⟨rfl, rfl, rfl, by decide +kernel, rfl, by decide +kernel, by decide +kernel⟩
set_option maxHeartbeats 0 in
theorem ok_difference {C : Cz} {f : Addr} {fd : FuncData} (F : Fun K "difference" "difference" s_difference f fd) (T : Txt P K mg C) (F_fraction_of : FnB P w K mg base (CXE P w) 2 "fraction_of" ["top", "bottom"] sp_fraction_of) : FnOk P w K mg base (CXE P w) 3 f fd ["one", "other"] sp_difference := by
 refine okN F (k := 2) sc_difference (fun vs H Q E h => ?_) (fun cdv A outer s H vs Q E hr h => ?_)
 ·obtain ⟨p, q, a, b, c, d, rfl, _⟩ := h
  rfl
 ·obtain ⟨p, q, a, b, c, d, rfl, h⟩ := h
  refine' ⟨_, ?main, ?rest⟩
  case main =>
   refine' pss_one ?c1
   case' c1 => refine' ps_ret ?c2
   case' c2 => refine' pe_fn ?c3 ?c4 ?c5 ?c6 ?c7
   case c3 => exact F_fraction_of
   case c4 => exact (hr.mono (by decide))
   case c5 => exact rfl
   case c6 => exact passE0
   case' c7 => refine' pa_cons ?c8 ?c9
   case' c8 => refine' pe_op ?c10 ?c11 ?c12
   case c10 => exact (OpR.f0 op_sub)
   case' c11 => refine' pe_op (OpR.f op_mulA) ?c13 ?c14
   case' c13 => exact (pe_ix ix_F (pvF 0) pe_int (fun _ _ => rfl))
   case' c14 => exact (pe_ix ix_F (pvF 1) pe_int (fun _ _ => rfl))
   case' c12 => refine' pe_op (OpR.f op_mulA) ?c15 ?c16
   case' c15 => exact (pe_ix ix_F (pvF 1) pe_int (fun _ _ => rfl))
   case' c16 => exact (pe_ix ix_F (pvF 0) pe_int (fun _ _ => rfl))
   case' c9 => refine' pa_cons ?c17 pa_nil
   case' c17 => refine' pe_op (OpR.f op_mulA) ?c18 ?c19
   case' c18 => exact (pe_ix ix_F (pvF 0) pe_int (fun _ _ => rfl))
   case' c19 => exact (pe_ix ix_F (pvF 1) pe_int (fun _ _ => rfl))
  case rest =>
   obtain ⟨hp, hq, ⟨b0, d0⟩, ⟨m, n, ⟨b1, b2⟩, ⟨b3, b4⟩, mn⟩, h⟩ := h
   simp only [L2.start, List.map_cons, List.map_nil, List.length_cons, List.length_nil, Nat.reduceAdd, Nat.reduceSub, List.replicate_succ, List.replicate_zero, List.cons_append, List.nil_append, List.append_nil]
   o_head ⟨tRaiseN, tAt, tTryN, hp, hq⟩
   have hbd : 0 < b * d := Int.mul_pos b0 d0
   refine ⟨.of b1 b4 (by omega) (by omega), .of b3 b2 (by omega) (by omega), .of b2 b4 (by omega) (by omega), ?_⟩
   exact ⟨_, _, rfl, by omega, (b2.mul b4).mono mn, fun t u v ht hf => h t u v ht hf⟩
end
end LW
namespace LW
open PySem L2 MA PyProof.Rows MC
section
variable {P : Program} {w : World} {K : PySem.W.Frag} {mg : Str → Option Value} {base : Heap}
theorem sc_ahead : FnScope ["one", "other", "across"] ["one", "other"] (defScope s_ahead) := ⟨rfl, rfl, rfl, by decide +kernel, rfl, by decide +kernel, by decide +kernel⟩
set_option maxHeartbeats 0 in
theorem ok_ahead {C : Cz} {f : Addr} {fd : FuncData} (F : Fun K "ahead" "ahead" s_ahead f fd) (T : Txt P K mg C)  : FnOk P w K mg base (CXE P w) 1 f fd ["one", "other"] sp_ahead := by
 refine okN F (k := 0) sc_ahead (fun vs H Q E h => ?_) (fun cdv A outer s H vs Q E hr h => ?_)
 ·obtain ⟨p, q, rfl, _⟩ := h
  rfl
 ·obtain ⟨p, q, rfl, h⟩ := h
  refine' ⟨_, ?main, ?rest⟩
  case main =>
   refine' pss_cons ?c1 ?c2
   case' c1 => refine' ps_set (i := 2) ?c3 ?c4 ?c5 ?c6
   case c3 => exact sc_ahead.nd
   case c4 => exact rfl
   case c5 => exact (Or.inl rfl)
   case' c6 => refine' pe_op ?c7 ?c8 ?c9
   case c7 => exact (OpR.f0 op_sub)
   case' c8 => refine' pe_op (OpR.f op_mulA) ?c10 ?c11
   case' c10 => exact (pe_ix ix_F (pvF 0) pe_int (fun _ _ => rfl))
   case' c11 => exact (pe_ix ix_F (pvF 1) pe_int (fun _ _ => rfl))
   case' c9 => refine' pe_op (OpR.f op_mulA) ?c12 ?c13
   case' c12 => exact (pe_ix ix_F (pvF 1) pe_int (fun _ _ => rfl))
   case' c13 => exact (pe_ix ix_F (pvF 0) pe_int (fun _ _ => rfl))
   case' c2 => refine' pss_cons ?c14 ?c15
   case' c14 => refine' ps_if ?c16 ?c17 pss_nil
   case' c16 => exact (pt_cmpF op_neI (pvF 2) pe_int (nomark _))
   case' c17 => refine' pss_one ?c18
   case' c18 => refine' ps_ret ?c19
   case' c19 => exact (pe_cmpR (OpR.f0 op_lt) (pvF 2) pe_int (nomark _))
   case' c15 => refine' pss_one ?c20
   case' c20 => refine' ps_ret ?c21
   case' c21 => refine' pe_cmpR ?c22 ?c23 ?c24 ?c25
   case c22 => exact (OpR.f0 op_lt)
   case' c23 => refine' pe_op (OpR.f op_mulA) ?c26 ?c27
   case' c26 => exact (pe_ix ix_F (pvF 0) pe_int (fun _ _ => rfl))
   case' c27 => exact (pe_ix ix_F (pvF 1) pe_int (fun _ _ => rfl))
   case' c24 => refine' pe_op (OpR.f op_mulA) ?c28 ?c29
   case' c28 => exact (pe_ix ix_F (pvF 1) pe_int (fun _ _ => rfl))
   case' c29 => exact (pe_ix ix_F (pvF 0) pe_int (fun _ _ => rfl))
   case c25 => exact (nomark _)
  case rest =>
   obtain ⟨⟨a, b, c⟩, hp, h⟩ := optK_elim h
   obtain ⟨⟨d, e, f⟩, hq, ⟨b1, b2, b3⟩, ⟨b4, b5, b6⟩, h⟩ := optK_elim h
   replace hp := tup3_eq hp
   replace hq := tup3_eq hq
   dsimp only at hp hq b1 b2 b3 b4 b5 b6 h
   simp only [L2.start, List.map_cons, List.map_nil, List.length_cons, List.length_nil, Nat.reduceAdd, Nat.reduceSub, List.replicate_succ, List.replicate_zero, List.cons_append, List.nil_append, List.append_nil]
   o_head ⟨tRaiseN, tAt, tTryN, hp, hq⟩
   refine ⟨(by first | exact CMulA.left (by decide) (by decide) | exact CMulA.right (by decide) (by decide) | (apply CMulA.of; (repeat (first | assumption | apply Bd.mul | apply Bd.sub | apply Bd.add | apply Bd.neg | apply Bd.sq)); all_goals decide)), (by first | exact CMulA.left (by decide) (by decide) | exact CMulA.right (by decide) (by decide) | (apply CMulA.of; (repeat (first | assumption | apply Bd.mul | apply Bd.sub | apply Bd.add | apply Bd.neg | apply Bd.sq)); all_goals decide)), ?_⟩
   unfold aheadB at h
   by_cases z : a * f - d * c = 0
   ·rw [if_neg (by simpa using z)] at h
    rw [if_neg (by simpa using z)]
    exact ⟨(by first | exact CMulA.left (by decide) (by decide) | exact CMulA.right (by decide) (by decide) | (apply CMulA.of; (repeat (first | assumption | apply Bd.mul | apply Bd.sub | apply Bd.add | apply Bd.neg | apply Bd.sq)); all_goals decide)), (by first | exact CMulA.left (by decide) (by decide) | exact CMulA.right (by decide) (by decide) | (apply CMulA.of; (repeat (first | assumption | apply Bd.mul | apply Bd.sub | apply Bd.add | apply Bd.neg | apply Bd.sq)); all_goals decide)), h⟩
   ·rw [if_pos (by simpa using z)] at h
    rw [if_pos (by simpa using z)]
    exact h
end
end LW
namespace LW
open PySem L2 MA PyProof.Rows MC
section
variable {P : Program} {w : World} {K : PySem.W.Frag} {mg : Str → Option Value} {base : Heap}
theorem sc_line_of : FnScope ["a", "b", "c", "common"] ["a", "b", "c"] (defScope s_line_of) := ⟨rfl, rfl, rfl, by decide +kernel, rfl, by decide +kernel, by decide +kernel⟩
set_option maxHeartbeats 0 in
theorem ok_line_of {C : Cz} {f : Addr} {fd : FuncData} (F : Fun K "line_of" "line_of" s_line_of f fd) (T : Txt P K mg C) (F_divisor : FnB P w K mg base (CXE P w) 1 "divisor" ["one", "other"] sp_divisor) : FnOk P w K mg base (CXE P w) 2 f fd ["a", "b", "c"] sp_line_of := by
 refine okN F (k := 1) sc_line_of (fun vs H Q E h => ?_) (fun cdv A outer s H vs Q E hr h => ?_)
 ·obtain ⟨a, b, c, rfl, _⟩ := h
  rfl
 ·obtain ⟨a, b, c, rfl, h⟩ := h
  refine' ⟨_, ?main, ?rest⟩
  case main =>
   refine' pss_cut ?c1 ?c2
   case' c1 => refine' ps_if ?c3 ?c4 ?c5
   case' c3 => refine' PW.pt ?c6
   case' c6 => refine' pw_and ?c7 ?c8
   case' c7 => exact (pt_cmpF op_eqI (pvF 0) pe_int (nomark _))
   case' c8 => refine' pw_and1 ?c9
   case' c9 => exact (pt_cmpF op_eqI (pvF 1) pe_int (nomark _))
   case' c4 => exact (pss_one ps_never)
   case c5 => exact pss_nil
   case' c2 => refine' pss_cons ?c10 ?c11
   case' c10 => refine' ps_set (i := 3) sc_line_of.nd rfl (Or.inl rfl) ?c12
   case' c12 => refine' pe_fn F_divisor (hr.mono (by decide)) rfl passE0 ?c13
   case' c13 => refine' pa_cons ?c14 ?c15
   case' c14 => refine' pe_fn F_divisor (hr.mono (by decide)) rfl passE0 ?c16
   case' c16 => refine' pa_cons (pvF 0) ?c17
   case' c17 => exact (pa_cons (pvF 1) pa_nil)
   case' c15 => exact (pa_cons (pvF 2) pa_nil)
   case' c11 => refine' pss_one ?c18
   case' c18 => refine' ps_ret ?c19
   case' c19 => refine' pe_tup ?c20
   case' c20 => refine' pa_cons (pe_op (OpR.f op_fdivB) (pvF 0) (pvF 3)) ?c21
   case' c21 => refine' pa_cons (pe_op (OpR.f op_fdivB) (pvF 1) (pvF 3)) ?c22
   case' c22 => exact (pa_cons (pe_op (OpR.f op_fdivB) (pvF 2) (pvF 3)) pa_nil)
  case rest =>
   obtain ⟨hn, ⟨b1, b2, b3⟩, h⟩ := h
   simp only [L2.start, List.map_cons, List.map_nil, List.length_cons, List.length_nil, Nat.reduceAdd, Nat.reduceSub, List.replicate_succ, List.replicate_zero, List.cons_append, List.nil_append, List.append_nil]
   refine ⟨fun σ H' => σ = [some (.int a), some (.int b), some (.int c), none] ∧ H' = H, ?_, ?_⟩
   ·o_head ⟨tRaiseN, tAt, tTryN⟩
    split
    ·rename_i ea
     split
     ·rename_i eb
      exact absurd ⟨ea, eb⟩ hn
     ·trivial
    ·trivial
   ·rintro σ H' ⟨rfl, rfl⟩
    o_head ⟨tRaiseN, tAt, tTryN, sp_divisor⟩
    obtain ⟨hl, hne⟩ := isLn_of (c := c) hn
    have hb : Bd 9000 (Int.gcd (Int.gcd a b) c : Int) := by
     refine Bd.mono (m := 4000) ?_ (by decide)
     obtain ⟨g, hg, ea, eb, ec, eg⟩ := hl.ex
     rw [← eg]
     by_cases z : a = 0
     ·have : b ≠ 0 := fun z' => hn ⟨z, z'⟩
      exact Nat.lt_of_le_of_lt (Nat.le_of_dvd (by omega) (Int.natAbs_dvd_natAbs.mpr ⟨_, eb⟩)) b2
     ·exact Nat.lt_of_le_of_lt (Nat.le_of_dvd (by omega) (Int.natAbs_dvd_natAbs.mpr ⟨_, ea⟩)) b1
    exact ⟨hne, hb, hne, hb, hne, hb, by decide, fun p hp => h p _ _ _ hp hl⟩
end
end LW
namespace LW
open PySem L2 MA PyProof.Rows MC
section
variable {P : Program} {w : World} {K : PySem.W.Frag} {mg : Str → Option Value} {base : Heap}
theorem sc_between : FnScope ["one", "other", "x", "y", "u", "v"] ["one", "other"] (defScope s_between) := ⟨rfl, rfl, rfl, by decide +kernel, rfl, by decide +kernel, by decide +kernel⟩
set_option maxHeartbeats 0 in
theorem ok_between {C : Cz} {f : Addr} {fd : FuncData} (F : Fun K "between" "between" s_between f fd) (T : Txt P K mg C) (F_line_of : FnB P w K mg base (CXE P w) 2 "line_of" ["a", "b", "c"] sp_line_of) : FnOk P w K mg base (CXE P w) 3 f fd ["one", "other"] sp_between := by
 refine okN F (k := 2) sc_between (fun vs H Q E h => ?_) (fun cdv A outer s H vs Q E hr h => ?_)
 ·obtain ⟨p, q, rfl, _⟩ := h
  rfl
 ·obtain ⟨p, q, rfl, h⟩ := h
  refine' ⟨_, ?main, ?rest⟩
  case main =>
   refine' pss_cut ?c1 ?c2
   case' c1 => refine' ps_if (pt_cmpF (op_eqDK (K := K) rfl (hu64 hr)) (pvF 0) (pvF 1) (nomark _)) ?c3 pss_nil
   case' c3 => exact (pss_one ps_never)
   case' c2 => refine' pss_cons ?c4 ?c5
   case' c4 => refine' ps_asg (pvF 0) ?c6
   case' c6 => refine' pg_F (n := 2) rfl ?c7
   case' c7 => refine' pgs_consF (pg_name (i := 2) sc_between.nd rfl (Or.inl rfl)) ?c8
   case' c8 => exact (pgs_consF (pg_name (i := 3) sc_between.nd rfl (Or.inl rfl)) pgs_nilF)
   case' c5 => refine' pss_cons ?c9 ?c10
   case' c9 => refine' ps_asg (pvF 1) ?c11
   case' c11 => refine' pg_F (n := 2) rfl ?c12
   case' c12 => refine' pgs_consF (pg_name (i := 4) sc_between.nd rfl (Or.inl rfl)) ?c13
   case' c13 => exact (pgs_consF (pg_name (i := 5) sc_between.nd rfl (Or.inl rfl)) pgs_nilF)
   case' c10 => refine' pss_one ?c14
   case' c14 => refine' ps_ret ?c15
   case' c15 => refine' pe_fn ?c16 ?c17 ?c18 ?c19 ?c20
   case c16 => exact F_line_of
   case c17 => exact (hr.mono (by decide))
   case c18 => exact rfl
   case c19 => exact passE0
   case' c20 => refine' pa_cons ?c21 ?c22
   case' c21 => exact (pe_op (OpR.f op_mulA) pe_int (pe_op (OpR.f0 op_sub) (pvF 4) (pvF 2)))
   case' c22 => refine' pa_cons ?c23 ?c24
   case' c23 => exact (pe_op (OpR.f op_mulA) pe_int (pe_op (OpR.f0 op_sub) (pvF 5) (pvF 3)))
   case' c24 => refine' pa_cons ?c25 pa_nil
   case' c25 => refine' pe_op (OpR.f0 op_sub) ?c26 (pe_op (OpR.f op_mulA) (pvF 3) (pvF 3))
   case' c26 => refine' pe_op (OpR.f0 op_sub) ?c27 (pe_op (OpR.f op_mulA) (pvF 2) (pvF 2))
   case' c27 => exact (pe_op (OpR.f0 op_add) (pe_op (OpR.f op_mulA) (pvF 4) (pvF 4)) (pe_op (OpR.f op_mulA) (pvF 5) (pvF 5)))
  case rest =>
   obtain ⟨⟨a, b⟩, hp, h⟩ := optK_elim h
   obtain ⟨⟨d, e⟩, hq, ⟨b1, b2⟩, ⟨b3, b4⟩, hne, h⟩ := optK_elim h
   replace hp := tup2_eq hp
   replace hq := tup2_eq hq
   dsimp only at hp hq b1 b2 b3 b4
   simp only [L2.start, List.map_cons, List.map_nil, List.length_cons, List.length_nil, Nat.reduceAdd, Nat.reduceSub, List.replicate_succ, List.replicate_zero, List.cons_append, List.nil_append, List.append_nil]
   have hn : ¬ (a = d ∧ b = e) := fun z => hne (by rw [z.1, z.2])
   refine ⟨fun σ H' => σ = [some (.ref p), some (.ref q), none, none, none, none] ∧ H' = H, ?_, ?_⟩
   ·o_head ⟨tRaiseN, tAt, tTryN⟩
    refine ⟨_, _, rdy_t2 hp, rdy_t2 hq, rfl, rfl, ?_⟩
    rw [eqv_t2, decide_eq_false hn]
    o_head ⟨tRaiseN, tAt, tTryN, id⟩
   ·rintro σ H' ⟨rfl, rfl⟩
    o_head ⟨tRaiseN, tAt, tTryN, gSeqF, gCons, gNil, hp, hq, sp_line_of⟩
    refine ⟨.left (by decide) (by decide), .left (by decide) (by decide), (by first | exact CMulA.left (by decide) (by decide) | exact CMulA.right (by decide) (by decide) | (apply CMulA.of; (repeat (first | assumption | apply Bd.mul | apply Bd.sub | apply Bd.add | apply Bd.neg | apply Bd.sq)); all_goals decide)), (by first | exact CMulA.left (by decide) (by decide) | exact CMulA.right (by decide) (by decide) | (apply CMulA.of; (repeat (first | assumption | apply Bd.mul | apply Bd.sub | apply Bd.add | apply Bd.neg | apply Bd.sq)); all_goals decide)), (by first | exact CMulA.left (by decide) (by decide) | exact CMulA.right (by decide) (by decide) | (apply CMulA.of; (repeat (first | assumption | apply Bd.mul | apply Bd.sub | apply Bd.add | apply Bd.neg | apply Bd.sq)); all_goals decide)), (by first | exact CMulA.left (by decide) (by decide) | exact CMulA.right (by decide) (by decide) | (apply CMulA.of; (repeat (first | assumption | apply Bd.mul | apply Bd.sub | apply Bd.add | apply Bd.neg | apply Bd.sq)); all_goals decide)), fun z => hn ⟨by omega, by omega⟩, ?_, ?_, ?_, fun t x y z ht hl => ?_⟩
    ·exact ((Bd.of_le (n := 2) 2 (by decide) (by decide) (by decide)).mul (b3.sub b1)).mono (by decide)
    ·exact ((Bd.of_le (n := 2) 2 (by decide) (by decide) (by decide)).mul (b4.sub b2)).mono (by decide)
    ·exact ((((b3.mul b3).add (b4.mul b4)).sub (b1.mul b1)).sub (b2.mul b2)).mono (by decide)
    ·obtain ⟨e1, e2, e3⟩ := isLn_eq hl
     have q := h t ht
     unfold lnB at q
     dsimp only at q
     rw [← e1, ← e2, ← e3] at q
     exact q
end
end LW
namespace LW
open PySem L2 MA PyProof.Rows MC
section
variable {P : Program} {w : World} {K : PySem.W.Frag} {mg : Str → Option Value} {base : Heap}
theorem sc_excess : FnScope ["line", "point"] ["line", "point"] (defScope s_excess) := ⟨rfl, rfl, rfl, by decide +kernel, rfl, by decide +kernel, by decide +kernel⟩
set_option maxHeartbeats 0 in
theorem ok_excess {C : Cz} {f : Addr} {fd : FuncData} (F : Fun K "excess" "excess" s_excess f fd) (T : Txt P K mg C)  : FnOk P w K mg base (CXE P w) 1 f fd ["line", "point"] sp_excess := by
 refine okN F (k := 0) sc_excess (fun vs H Q E h => ?_) (fun cdv A outer s H vs Q E hr h => ?_)
 ·obtain ⟨p, q, rfl, _⟩ := h
  rfl
 ·obtain ⟨p, q, rfl, h⟩ := h
  refine' ⟨_, ?main, ?rest⟩
  case main =>
   refine' pss_one ?c1
   case' c1 => refine' ps_ret ?c2
   case' c2 => refine' pe_op ?c3 ?c4 ?c5
   case c3 => exact (OpR.f0 op_sub)
   case' c4 => refine' pe_op ?c6 ?c7 ?c8
   case c6 => exact (OpR.f0 op_add)
   case' c7 => refine' pe_op (OpR.f op_mulA) ?c9 ?c10
   case' c9 => exact (pe_ix ix_F (pvF 0) pe_int (fun _ _ => rfl))
   case' c10 => exact (pe_ix ix_F (pvF 1) pe_int (fun _ _ => rfl))
   case' c8 => refine' pe_op (OpR.f op_mulA) ?c11 ?c12
   case' c11 => exact (pe_ix ix_F (pvF 0) pe_int (fun _ _ => rfl))
   case' c12 => exact (pe_ix ix_F (pvF 1) pe_int (fun _ _ => rfl))
   case' c5 => refine' pe_op (OpR.f op_mulA) ?c13 ?c14
   case' c13 => exact (pe_ix ix_F (pvF 0) pe_int (fun _ _ => rfl))
   case' c14 => exact (pe_ix ix_F (pvF 1) pe_int (fun _ _ => rfl))
  case rest =>
   obtain ⟨⟨a, b, c⟩, hp, h⟩ := optK_elim h
   obtain ⟨⟨d, e, f⟩, hq, ⟨b1, b2, b3⟩, ⟨b4, b5, b6⟩, h⟩ := optK_elim h
   replace hp := tup3_eq hp
   replace hq := tup3_eq hq
   dsimp only at hp hq b1 b2 b3 b4 b5 b6 h
   simp only [L2.start, List.map_cons, List.map_nil, List.length_cons, List.length_nil, Nat.reduceAdd, Nat.reduceSub, List.replicate_succ, List.replicate_zero, List.cons_append, List.nil_append, List.append_nil]
   o_head ⟨tRaiseN, tAt, tTryN, hp, hq⟩
   exact ⟨(by first | exact CMulA.left (by decide) (by decide) | exact CMulA.right (by decide) (by decide) | (apply CMulA.of; (repeat (first | assumption | apply Bd.mul | apply Bd.sub | apply Bd.add | apply Bd.neg | apply Bd.sq)); all_goals decide)), (by first | exact CMulA.left (by decide) (by decide) | exact CMulA.right (by decide) (by decide) | (apply CMulA.of; (repeat (first | assumption | apply Bd.mul | apply Bd.sub | apply Bd.add | apply Bd.neg | apply Bd.sq)); all_goals decide)), (by first | exact CMulA.left (by decide) (by decide) | exact CMulA.right (by decide) (by decide) | (apply CMulA.of; (repeat (first | assumption | apply Bd.mul | apply Bd.sub | apply Bd.add | apply Bd.neg | apply Bd.sq)); all_goals decide)), h⟩
end
end LW
namespace LW
open PySem L2 MA PyProof.Rows MC
section
variable {P : Program} {w : World} {K : PySem.W.Frag} {mg : Str → Option Value} {base : Heap}
theorem sc_check_box : FnScope ["box", "x", "y", "u", "v"] ["box"] (defScope s_check_box) := ⟨rfl, rfl, rfl, by decide +kernel, rfl, by decide +kernel, by decide +kernel⟩
set_option maxHeartbeats 0 in
theorem ok_check_box {C : Cz} {f : Addr} {fd : FuncData} (F : Fun K "check_box" "check_box" s_check_box f fd) (T : Txt P K mg C)  : FnOk P w K mg base (CXE P w) 1 f fd ["box"] (sp_check_boxE C) := by
 refine okE F (k := 0) sc_check_box (fun vs H Q E h => ?_) (fun cdv A outer s H vs Q E hr h => ?_)
 ·obtain ⟨p, x, y, u, v, rfl, _⟩ := h
  rfl
 ·obtain ⟨p, x, y, u, v, rfl, h⟩ := h
  refine' ⟨_, ?main, ?rest⟩
  case main =>
   refine' pss_cons ?c1 ?c2
   case' c1 => refine' ps_asg ?c3 ?c4
   case c3 => exact (pvF 0)
   case' c4 => refine' pg_F (n := 4) rfl ?c5
   case' c5 => refine' pgs_consF (pg_name (i := 1) sc_check_box.nd rfl (Or.inl rfl)) ?c6
   case' c6 => refine' pgs_consF (pg_name (i := 2) sc_check_box.nd rfl (Or.inl rfl)) ?c7
   case' c7 => refine' pgs_consF (pg_name (i := 3) sc_check_box.nd rfl (Or.inl rfl)) ?c8
   case' c8 => exact (pgs_consF (pg_name (i := 4) sc_check_box.nd rfl (Or.inl rfl)) pgs_nilF)
   case' c2 => refine' pss_one ?c9
   case' c9 => refine' ps_if ?c10 ?c11 ?c12
   case' c10 => refine' PW.pt ?c13
   case' c13 => refine' pw_or (pt_cmpF (OpR.f0 op_ge) (pvF 1) (pvF 3) (nomark _)) ?c14
   case' c14 => exact (pw_or1 (pt_cmpF (OpR.f0 op_ge) (pvF 2) (pvF 4) (nomark _)))
   case' c11 => refine' pss_one ?c15
   case' c15 => refine' ps_raise (K := K) rfl madeE T.x_NoBox rfl T.g_NoBox ?c16
   case' c16 => exact (pa_cons pe_str pa_nil)
   case c12 => exact pss_nil
  case rest =>
   obtain ⟨hp, h⟩ := h
   simp only [L2.start, List.map_cons, List.map_nil, List.length_cons, List.length_nil, Nat.reduceAdd, Nat.reduceSub, List.replicate_succ, List.replicate_zero, List.cons_append, List.nil_append, List.append_nil]
   o_head ⟨tRaiseN, tAt, tTryN, gSeqF, gCons, gNil, hp⟩
   rcases h with ⟨h1, h2, h⟩ | ⟨hn, h⟩
   ·rw [if_neg (by omega), if_neg (by omega)]
    exact h
   ·by_cases z : u ≤ x
    ·rw [if_pos (by omega)]
     exact ⟨by decide, h⟩
    ·rw [if_neg (by omega), if_pos (by omega)]
     exact ⟨by decide, h⟩
end
end LW
namespace LW
open PySem L2 MA PyProof.Rows MC
section
variable {P : Program} {w : World} {K : PySem.W.Frag} {mg : Str → Option Value} {base : Heap}
theorem sc_has_point : FnScope ["box", "point", "x", "y", "u", "v", "across", "up", "w"] ["box", "point"] (defScope s_has_point) := ⟨rfl, rfl, rfl, by decide +kernel, rfl, by decide +kernel, by decide +kernel⟩
set_option maxHeartbeats 0 in
theorem ok_has_point {C : Cz} {f : Addr} {fd : FuncData} (F : Fun K "has_point" "has_point" s_has_point f fd) (T : Txt P K mg C)  : FnOk P w K mg base (CXE P w) 1 f fd ["box", "point"] sp_has_point := by
 refine okN F (k := 0) sc_has_point (fun vs H Q E h => ?_) (fun cdv A outer s H vs Q E hr h => ?_)
 ·obtain ⟨p, q, x, y, u, v, z, rfl, _⟩ := h
  rfl
 ·obtain ⟨p, q, x, y, u, v, z, rfl, h⟩ := h
  refine' ⟨_, ?main, ?rest⟩
  case main =>
   refine' pss_cons ?c1 ?c2
   case' c1 => refine' ps_asg ?c3 ?c4
   case c3 => exact (pvF 0)
   case' c4 => refine' pg_F (n := 4) rfl ?c5
   case' c5 => refine' pgs_consF (pg_name (i := 2) sc_has_point.nd rfl (Or.inl rfl)) ?c6
   case' c6 => refine' pgs_consF (pg_name (i := 3) sc_has_point.nd rfl (Or.inl rfl)) ?c7
   case' c7 => refine' pgs_consF (pg_name (i := 4) sc_has_point.nd rfl (Or.inl rfl)) ?c8
   case' c8 => exact (pgs_consF (pg_name (i := 5) sc_has_point.nd rfl (Or.inl rfl)) pgs_nilF)
   case' c2 => refine' pss_cons ?c9 ?c10
   case' c9 => refine' ps_asg (pvF 1) ?c11
   case' c11 => refine' pg_F (n := 3) rfl ?c12
   case' c12 => refine' pgs_consF (pg_name (i := 6) sc_has_point.nd rfl (Or.inl rfl)) ?c13
   case' c13 => refine' pgs_consF (pg_name (i := 7) sc_has_point.nd rfl (Or.inl rfl)) ?c14
   case' c14 => exact (pgs_consF (pg_name (i := 8) sc_has_point.nd rfl (Or.inl rfl)) pgs_nilF)
   case' c10 => refine' pss_one ?c15
   case' c15 => refine' ps_ret ?c16
   case' c16 => refine' pe_and ?c17 ?c18
   case' c17 => exact (pe_chain (OpR.f0 op_le) (OpR.f0 op_le) (pe_op (OpR.f op_mulA) (pvF 2) (pvF 8)) (pvF 6) (pe_op (OpR.f op_mulA) (pvF 4) (pvF 8)))
   case' c18 => refine' pe_one ?c19
   case' c19 => exact (pe_chain (OpR.f0 op_le) (OpR.f0 op_le) (pe_op (OpR.f op_mulA) (pvF 3) (pvF 8)) (pvF 7) (pe_op (OpR.f op_mulA) (pvF 5) (pvF 8)))
  case rest =>
   obtain ⟨hp, hq, ⟨b1, b2, b3, b4⟩, b5, h⟩ := h
   simp only [L2.start, List.map_cons, List.map_nil, List.length_cons, List.length_nil, Nat.reduceAdd, Nat.reduceSub, List.replicate_succ, List.replicate_zero, List.cons_append, List.nil_append, List.append_nil]
   o_head ⟨tRaiseN, tAt, tTryN, gSeqF, gCons, gNil, hp, hq, tChain⟩
   refine ⟨.of b1 b5 (by decide) (by decide), ?_⟩
   by_cases c1 : x * z.2.2 ≤ z.1
   ·rw [if_pos c1]
    refine ⟨.of b3 b5 (by decide) (by decide), ?_⟩
    by_cases c2 : z.1 ≤ u * z.2.2
    ·rw [if_pos c2]
     refine ⟨.of b2 b5 (by decide) (by decide), ?_⟩
     by_cases c3 : y * z.2.2 ≤ z.2.1
     ·rw [if_pos c3]
      refine ⟨.of b4 b5 (by decide) (by decide), ?_⟩
      have e : inBox x y u v z = decide (z.2.1 ≤ v * z.2.2) := by
       unfold inBox
       by_cases c4 : z.2.1 ≤ v * z.2.2
       ·rw [decide_eq_true c4, decide_eq_true ⟨c1, c2, c3, c4⟩]
       ·rw [decide_eq_false c4, decide_eq_false (fun q => c4 q.2.2.2)]
      rw [← e]
      exact h
     ·rw [if_neg c3]
      rw [show inBox x y u v z = false from decide_eq_false fun q => c3 q.2.2.1] at h
      exact h
    ·rw [if_neg c2]
     rw [show inBox x y u v z = false from decide_eq_false fun q => c2 q.2.1] at h
     exact h
   ·rw [if_neg c1]
    rw [show inBox x y u v z = false from decide_eq_false fun q => c1 q.1] at h
    exact h
end
end LW
namespace LW
open PySem L2 MA PyProof.Rows MC
section
variable {P : Program} {w : World} {K : PySem.W.Frag} {mg : Str → Option Value} {base : Heap}
theorem sc_in_box : FnScope ["box", "spot"] ["box", "spot"] (defScope s_in_box) := ⟨rfl, rfl, rfl, by decide +kernel, rfl, by decide +kernel, by decide +kernel⟩
set_option maxHeartbeats 0 in
theorem ok_in_box {C : Cz} {f : Addr} {fd : FuncData} (F : Fun K "in_box" "in_box" s_in_box f fd) (T : Txt P K mg C) (F_spot_point : FnB P w K mg base (CXE P w) 1 "spot_point" ["spot"] sp_spot_point) (F_has_point : FnB P w K mg base (CXE P w) 1 "has_point" ["box", "point"] sp_has_point) : FnOk P w K mg base (CXE P w) 2 f fd ["box", "spot"] sp_in_boxB := by
 refine okN F (k := 1) sc_in_box (fun vs H Q E h => ?_) (fun cdv A outer s H vs Q E hr h => ?_)
 ·obtain ⟨p, q, x, y, u, v, a, b, rfl, _⟩ := h
  rfl
 ·obtain ⟨p, q, x, y, u, v, a, b, rfl, h⟩ := h
  refine' ⟨_, ?main, ?rest⟩
  case main =>
   refine' pss_one ?c1
   case' c1 => refine' ps_ret ?c2
   case' c2 => refine' pe_fn F_has_point (hr.mono (by decide)) rfl passE0 ?c3
   case' c3 => refine' pa_cons (pvF 0) ?c4
   case' c4 => refine' pa_cons ?c5 pa_nil
   case' c5 => refine' pe_fn F_spot_point (hr.mono (by decide)) rfl passE0 ?c6
   case' c6 => exact (pa_cons (pvF 1) pa_nil)
  case rest =>
   obtain ⟨hp, hq, hb, h⟩ := h
   simp only [L2.start, List.map_cons, List.map_nil, List.length_cons, List.length_nil, Nat.reduceAdd, Nat.reduceSub, List.replicate_succ, List.replicate_zero, List.cons_append, List.nil_append, List.append_nil]
   o_head ⟨tRaiseN, tAt, tTryN, sp_spot_point, hq⟩
   refine ⟨a, b, rfl, fun t ht => ?_⟩
   refine ⟨p, t, x, y, u, v, (a, b, 1), rfl, upd_f ht hp, upd_same, hb, (Bd.lit (i := 1) (by decide) (by decide)), ?_⟩
   rw [show inBox x y u v (a, b, 1) = decide (x ≤ a ∧ a ≤ u ∧ y ≤ b ∧ b ≤ v) from by unfold inBox; dsimp only; rw [Int.mul_one, Int.mul_one, Int.mul_one, Int.mul_one]]
   exact h _ (.upd ht)
end
end LW
namespace LW
open PySem L2 MA PyProof.Rows MC
section
variable {P : Program} {w : World} {K : PySem.W.Frag} {mg : Str → Option Value} {base : Heap}
theorem sc_check_count : FnScope ["spots"] ["spots"] (defScope s_check_count) := ⟨rfl, rfl, rfl, by decide +kernel, rfl, by decide +kernel, by decide +kernel⟩
set_option maxHeartbeats 0 in
theorem ok_check_count {C : Cz} {f : Addr} {fd : FuncData} (F : Fun K "check_count" "check_count" s_check_count f fd) (T : Txt P K mg C)  : FnOk P w K mg base (CXE P w) 1 f fd ["spots"] (sp_check_countE C) := by
 refine okE F (k := 0) sc_check_count (fun vs H Q E h => ?_) (fun cdv A outer s H vs Q E hr h => ?_)
 ·obtain ⟨l, xs, rfl, _⟩ := h
  rfl
 ·obtain ⟨l, xs, rfl, h⟩ := h
  refine' ⟨_, ?main, ?rest⟩
  case main =>
   refine' pss_one ?c1
   case' c1 => refine' ps_if ?c2 ?c3 ?c4
   case' c2 => refine' PW.pt ?c5
   case' c5 => refine' pw_or ?c6 ?c7
   case' c6 => refine' pt_cmpF op_eqI ?c8 pe_int (nomark _)
   case' c8 => refine' pe_callB call_lenF (by rfl) T.b_len PySem.boot_len ?c9
   case' c9 => exact (pa_cons (pvF 0) pa_nil)
   case' c7 => refine' pw_or1 ?c10
   case' c10 => refine' pt_cmpF (OpR.f0 op_gt) ?c11 (pe_globI rfl T.n_MOST_SPOTS) (nomark _)
   case' c11 => refine' pe_callB call_lenF (by rfl) T.b_len PySem.boot_len ?c12
   case' c12 => exact (pa_cons (pvF 0) pa_nil)
   case' c3 => refine' pss_one ?c13
   case' c13 => refine' ps_raise (K := K) rfl madeE T.x_TooMany rfl T.g_TooMany ?c14
   case' c14 => exact (pa_cons pe_str pa_nil)
   case c4 => exact pss_nil
  case rest =>
   obtain ⟨hl, h⟩ := h
   simp only [L2.start, List.map_cons, List.map_nil, List.length_cons, List.length_nil, Nat.reduceAdd, Nat.reduceSub, List.replicate_succ, List.replicate_zero, List.cons_append, List.nil_append, List.append_nil]
   o_head ⟨tRaiseN, tAt, tTryN, hl⟩
   rcases h with ⟨h0, h12, h⟩ | ⟨hn, h⟩
   ·rw [if_neg (by omega), if_neg (by omega)]
    exact h
   ·by_cases z : xs.length = 0
    ·rw [if_pos (by omega)]
     exact ⟨by decide, h⟩
    ·rw [if_neg (by omega), if_pos (by omega)]
     exact ⟨by decide, h⟩
end
end LW
namespace LW
open PySem L2 MA PyProof.Rows MC
section
variable {P : Program} {w : World} {K : PySem.W.Frag} {mg : Str → Option Value} {base : Heap}
theorem sc_check_box_and_spots : FnScope ["box", "spots", "number", "spot"] ["box", "spots"] (defScope s_check_box_and_spots) := ⟨rfl, rfl, rfl, by decide +kernel, rfl, by decide +kernel, by decide +kernel⟩
set_option maxHeartbeats 0 in
theorem ok_check_box_and_spots {C : Cz} {f : Addr} {fd : FuncData} (F : Fun K "check_box_and_spots" "check_box_and_spots" s_check_box_and_spots f fd) (T : Txt P K mg C) (F_in_box : FnB P w K mg base (CXE P w) 2 "in_box" ["box", "spot"] sp_in_boxB) (F_check_count : FnB P w K mg base (CXE P w) 1 "check_count" ["spots"] (sp_check_countE C)) (F_check_box : FnB P w K mg base (CXE P w) 1 "check_box" ["box"] (sp_check_boxE C)) : FnOk P w K mg base (CXE P w) 3 f fd ["box", "spots"] (sp_cbsE K C) := by
 refine okE F (k := 2) sc_check_box_and_spots (fun vs H Q E h => ?_) (fun cdv A outer s H vs Q E hr h => ?_)
 ·obtain ⟨b, l, x, y, u, v, qs, rs, rfl, _⟩ := h
  rfl
 ·obtain ⟨b, l, x, y, u, v, qs, rs, rfl, h⟩ := h
  refine' ⟨_, ?main, ?rest⟩
  case main =>
   refine' pss_cons ?c1 ?c2
   case' c1 => refine' ps_expr ?c3
   case' c3 => refine' pe_fn F_check_box (hr.mono (by decide)) rfl passE ?c4
   case' c4 => exact (pa_cons (pvF 0) pa_nil)
   case' c2 => refine' pss_cons ?c5 ?c6
   case' c5 => refine' ps_expr ?c7
   case' c7 => refine' pe_fn F_check_count (hr.mono (by decide)) rfl passE ?c8
   case' c8 => exact (pa_cons (pvF 1) pa_nil)
   case' c6 => refine' pss_one ?c9
   case' c9 => refine' ps_for ?c10 ?c11 ?c12 ?c13 ?c14
   case c10 => exact PassesOwn.leaving
   case c11 => exact rfl
   case' c12 => refine' pi_enum (K := K) rfl rfl T.b_enumerate ?c15
   case' c15 => exact (pa_cons (pvF 1) pa_nil)
   case' c13 => refine' pg_F (n := 2) rfl ?c16
   case' c16 => refine' pgs_consF (pg_name (i := 2) sc_check_box_and_spots.nd rfl (Or.inl rfl)) ?c17
   case' c17 => exact (pgs_consF (pg_name (i := 3) sc_check_box_and_spots.nd rfl (Or.inl rfl)) pgs_nilF)
   case' c14 => refine' pss_one ?c18
   case' c18 => refine' ps_if ?c19 ?c20 ?c21
   case' c19 => refine' PW.pt ?c22
   case' c22 => refine' pw_or ?c23 ?c24
   case' c23 => refine' pt_not ?c25
   case' c25 => refine' pt_valF ?c26
   case' c26 => refine' pe_fn F_in_box (hr.mono (by decide)) rfl passE0 ?c27
   case' c27 => refine' pa_cons (pvF 0) ?c28
   case' c28 => exact (pa_cons (pvF 3) pa_nil)
   case' c24 => refine' pw_or1 ?c29
   case' c29 => refine' pt_cmpF (op_inDK (K := K) rfl (hu65 hr)) (pvF 3) ?c30 (by with_unfolding_all rfl)
   case' c30 => exact (pe_slice sl_F (pvF 1) po_none (po_some (pvF 2)))
   case' c20 => refine' pss_one ?c31
   case' c31 => refine' ps_raiseN (K := K) rfl madeN T.n_NoSpot T.kp_NoSpot rfl T.g_NoSpot T.b_super hr ?c32
   case' c32 => exact (pa_cons (pvF 2) pa_nil)
   case c21 => exact pss_nil
  case rest =>
   obtain ⟨ok, Vd⟩ := h
   have lq : (qs.map V.ref).length = rs.length := by rw [List.length_map, ok.at_.1]
   have few := ok.few
   simp only [L2.start, List.map_cons, List.map_nil, List.length_cons, List.length_nil, Nat.reduceAdd, Nat.reduceSub, List.replicate_succ, List.replicate_zero, List.cons_append, List.nil_append, List.append_nil]
   o_head ⟨tRaiseN, tAt, tTryN, sp_check_boxE, sp_check_countE⟩
   refine ⟨x, y, u, v, ok.bx, ?_⟩
   by_cases hb : x < u ∧ y < v
   rotate_left
   ·exact .inr ⟨hb, Vd.box hb _ (.refl _)⟩
   obtain ⟨xu, yv⟩ := hb
   refine .inl ⟨xu, yv, _, ok.sp, ?_⟩
   by_cases hn : 0 < rs.length ∧ rs.length ≤ 12
   rotate_left
   ·exact .inr ⟨by rw [lq]; exact hn, Vd.many xu yv hn _ (.refl _)⟩
   obtain ⟨n0, n12⟩ := hn
   refine .inl ⟨by rw [lq]; exact n0, by rw [lq]; exact n12, ?_⟩
   refine tfor_enum (fun a' H1 => a' = l ∧ H1 = H) ?_ ?_
   ·intro R hR
    o_head ⟨tRaiseN, tAt, tTryN⟩
    exact hR _ _ ⟨rfl, rfl⟩
   ·rintro _ _ ⟨rfl, rfl⟩
    refine ⟨qs.map V.ref, fun i σ H' => ∃ o2 o3 : Option V, σ = [some (.ref b), some (.ref _), o2, o3] ∧ Ext _ H' ∧ ∀ j, j < i → ¬ BadAt x y u v rs j, ⟨_, _, rfl, .refl _, fun j hj => absurd hj (Nat.not_lt_zero _)⟩, ?_, ?_, ?_⟩
    ·rintro i σ H' _ ⟨o2, o3, rfl, x', _⟩
     exact SqL.of (x' _ _ ok.sp)
    ·rintro i w1 t σ H' hi ⟨o2, o3, rfl, x', nb⟩ ht
     obtain ⟨q, hq, rfl⟩ := refs_get hi
     obtain ⟨r, hr1, hr2⟩ := ok.at_.at hq
     have xt := x'.then (o := .tup [.int (i : Int), .ref q]) ht
     have et := upd_same (H := H') (a := t) (o := .tup [.int (i : Int), .ref q])
     generalize upd H' t (.tup [.int (i : Int), .ref q]) = H2 at xt et ⊢
     have ok2 := ok.ext xt
     o_head ⟨tRaiseN, tAt, tTryN, gSeqF, gCons, gNil, et, sp_in_boxB⟩
     refine ⟨_, _, _, _, ok2.bx, r.1, r.2, xt _ _ hr2, ok.b4.1, ok.b4.2.1, ok.b4.2.2.1, ok.b4.2.2.2, fun H3 x3 => ?_⟩
     have ok3 := ok2.ext x3
     by_cases hin : isIn x y u v r
     rotate_left
     ·rw [if_pos (show ¬ (x ≤ r.1 ∧ r.1 ≤ u ∧ y ≤ r.2 ∧ r.2 ≤ v) from hin)]
      exact fun dx hdx => Vd.spot xu yv n0 n12 i ⟨⟨r, hr1, .inl hin⟩, nb⟩ _ dx (xt.trans x3) hdx
     rw [if_neg (fun z => z (show x ≤ r.1 ∧ r.1 ≤ u ∧ y ≤ r.2 ∧ r.2 ≤ v from hin))]
     o_head ⟨tRaiseN, tAt, tTryN, ok3.sp⟩
     rw [cut_to]
     refine fun s1 h1 => ?_
     have x4 := (xt.trans x3).then (o := .lst ((qs.map V.ref).take i)) h1
     have ok4 := ok.ext x4
     refine ⟨t2d r, (rs.take i).map t2d, rdy_t2 (x4 _ _ hr2), .lst (xs := (qs.take i).map V.ref) (SqL.of ?_) (rdy_rs (ok4.at_.take i)), shaped_t2 r, shaped_rs _, ?_, ?_⟩
     ·rw [upd_same, List.map_take]
     ·intro y hy
      obtain ⟨z', _, rfl⟩ := List.mem_map.mp hy
      exact nomix_t2 z' r
     ·rw [mem_before]
      by_cases hm : r ∈ rs.take i
      ·rw [decide_eq_true hm]
       o_head ⟨tRaiseN, tAt, tTryN⟩
       exact fun dx hdx => Vd.spot xu yv n0 n12 i ⟨⟨r, hr1, .inr hm⟩, nb⟩ _ dx x4 hdx
      ·rw [decide_eq_false hm]
       o_head ⟨tRaiseN, tAt, tTryN⟩
       refine ⟨x4, fun j hj => ?_⟩
       by_cases e : j = i
       ·subst e
        rintro ⟨r', h1', q | q⟩
        ·rw [hr1] at h1'; cases h1'; exact q hin
        ·rw [hr1] at h1'; cases h1'; exact hm q
       ·exact nb j (by omega)
    ·rintro σ H' ⟨o2, o3, rfl, x', nb⟩
     rw [lq] at nb
     refine Vd.right xu yv n0 n12 (fun j z => ?_) _ x'
     obtain ⟨r, h1, _⟩ := id z
     exact nb j (List.getElem?_eq_some_iff.mp h1).1 z
end
end LW
namespace LW
open PySem L2 MA PyProof.Rows MC
section
variable {P : Program} {w : World} {K : PySem.W.Frag} {mg : Str → Option Value} {base : Heap}
theorem sc_others_of : FnScope ["spots", "number"] ["spots", "number"] (defScope s_others_of) := ⟨rfl, rfl, rfl, by decide +kernel, rfl, by decide +kernel, by decide +kernel⟩
set_option maxHeartbeats 0 in
theorem ok_others_of {C : Cz} {f : Addr} {fd : FuncData} (F : Fun K "others_of" "others_of" s_others_of f fd) (T : Txt P K mg C)  : FnOk P w K mg base (CXE P w) 1 f fd ["spots", "number"] sp_others := by
 refine okN F (k := 0) sc_others_of (fun vs H Q E h => ?_) (fun cdv A outer s H vs Q E hr h => ?_)
 ·obtain ⟨l, i, xs, rfl, _⟩ := h
  rfl
 ·obtain ⟨l, i, xs, rfl, h⟩ := h
  refine' ⟨_, ?main, ?rest⟩
  case main =>
   refine' pss_one ?c1
   case' c1 => refine' ps_ret ?c2
   case' c2 => refine' pe_lc (CScope.of_ok (dsc := defScope s_others_of) (N0 := ["spots", "number"]) (N := ["other", "number"]) (k := 1) (js := [1]) rfl rfl (by decide +kernel)) rfl ?c3 ?c4 ?c5 (fun _ _ _ _ _ _ => (pvF 0))
   case' c3 => refine' pi_range1 rfl T.b_range ?c6
   case' c6 => refine' pa_cons ?c7 pa_nil
   case' c7 => refine' pe_callB call_lenF (by rfl) T.b_len PySem.boot_len ?c8
   case' c8 => exact (pa_cons (pvF 0) pa_nil)
   case' c4 => intro _ _ _ _ _ _; exact (pg_name (i := 0) (by show List.Nodup (["other", "number"] : List Str); decide +kernel) rfl (Or.inl rfl))
   case' c5 => intro _ _ _ _ _ _; exact (pifs_one (pt_cmpF op_neI (pvF 0) (pvF 1) (nomark _)))
  case rest =>
   obtain ⟨hl, hn, h⟩ := h
   simp only [L2.start, List.map_cons, List.map_nil, List.length_cons, List.length_nil, Nat.reduceAdd, Nat.reduceSub, List.replicate_succ, List.replicate_zero, List.cons_append, List.nil_append, List.append_nil]
   o_head ⟨tRaiseN, tAt, tTryN⟩
   refine tlc_range xs.length (fun R hR => by o_head ⟨tRaiseN, tAt, tTryN, hl⟩; exact hR) (by omega) (fun D k ys H' => ys = JsV (othersL k i) ∧ H' D = some (.lst ys) ∧ Ext H H') ?_ ?_ ?_ ?_
   ·intro D hD
    exact ⟨rfl, upd_same, .upd hD⟩
   ·rintro D k ys H1 _ ⟨rfl, e1, x1⟩
    refine ⟨e1, ?_⟩
    unfold JsV
    rw [List.length_map]
    exact othersL_len k i
   ·rintro D k ys H1 hD hk ⟨rfl, e1, x1⟩
    o_head ⟨tRaiseN, tAt, tTryN⟩
    rw [othersL_succ]
    by_cases c : k = i
    ·rw [if_neg (fun z => z (by omega)), if_neg (by omega)]
     exact ⟨rfl, e1, x1⟩
    ·rw [if_pos (by omega), if_pos (by omega)]
     refine ⟨e1, ?_, x1.set hD⟩
     unfold JsV
     rw [List.map_append, Int.zero_add]
     rfl
   ·rintro D ys H1 hD ⟨rfl, e1, x1⟩
    exact h D H1 x1 hD e1
end
end LW
namespace LW
open PySem L2 MA PyProof.Rows MC
section
variable {P : Program} {w : World} {K : PySem.W.Frag} {mg : Str → Option Value} {base : Heap}
theorem sc_box_field : FnScope ["box", "x", "y", "u", "v"] ["box"] (defScope s_box_field) := ⟨rfl, rfl, rfl, by decide +kernel, rfl, by decide +kernel, by decide +kernel⟩
set_option maxHeartbeats 0 in
theorem ok_box_field {C : Cz} {f : Addr} {fd : FuncData} (F : Fun K "box_field" "box_field" s_box_field f fd) (T : Txt P K mg C) (F_check_box : FnB P w K mg base (CXE P w) 1 "check_box" ["box"] sp_check_box) : FnOk P w K mg base (CXE P w) 2 f fd ["box"] sp_box_field := by
 refine okN F (k := 1) sc_box_field (fun vs H Q E h => ?_) (fun cdv A outer s H vs Q E hr h => ?_)
 ·obtain ⟨p, x, y, u, v, rfl, _⟩ := h
  rfl
 ·obtain ⟨p, x, y, u, v, rfl, h⟩ := h
  refine' ⟨_, ?main, ?rest⟩
  case main =>
   refine' pss_cons ?c1 ?c2
   case' c1 => refine' ps_expr ?c3
   case' c3 => refine' pe_fn F_check_box (hr.mono (by decide)) rfl passE0 ?c4
   case' c4 => exact (pa_cons (pvF 0) pa_nil)
   case' c2 => refine' pss_cons ?c5 ?c6
   case' c5 => refine' ps_asg ?c7 ?c8
   case c7 => exact (pvF 0)
   case' c8 => refine' pg_F (n := 4) rfl ?c9
   case' c9 => refine' pgs_consF (pg_name (i := 1) sc_box_field.nd rfl (Or.inl rfl)) ?c10
   case' c10 => refine' pgs_consF (pg_name (i := 2) sc_box_field.nd rfl (Or.inl rfl)) ?c11
   case' c11 => refine' pgs_consF (pg_name (i := 3) sc_box_field.nd rfl (Or.inl rfl)) ?c12
   case' c12 => exact (pgs_consF (pg_name (i := 4) sc_box_field.nd rfl (Or.inl rfl)) pgs_nilF)
   case' c6 => refine' pss_one ?c13
   case' c13 => refine' ps_ret ?c14
   case' c14 => refine' pe_tup ?c15
   case' c15 => refine' pa_cons ?c16 ?c17
   case' c16 => refine' pe_lst ?c18
   case' c18 => refine' pa_cons ?c19 ?c20
   case' c19 => refine' pe_tup ?c21
   case' c21 => refine' pa_cons (pvF 1) ?c22
   case' c22 => refine' pa_cons (pvF 2) ?c23
   case' c23 => exact (pa_cons pe_int pa_nil)
   case' c20 => refine' pa_cons ?c24 ?c25
   case' c24 => refine' pe_tup ?c26
   case' c26 => refine' pa_cons (pvF 3) ?c27
   case' c27 => refine' pa_cons (pvF 2) ?c28
   case' c28 => exact (pa_cons pe_int pa_nil)
   case' c25 => refine' pa_cons ?c29 ?c30
   case' c29 => refine' pe_tup ?c31
   case' c31 => refine' pa_cons (pvF 3) ?c32
   case' c32 => refine' pa_cons (pvF 4) ?c33
   case' c33 => exact (pa_cons pe_int pa_nil)
   case' c30 => refine' pa_cons ?c34 pa_nil
   case' c34 => refine' pe_tup ?c35
   case' c35 => refine' pa_cons (pvF 1) ?c36
   case' c36 => refine' pa_cons (pvF 4) ?c37
   case' c37 => exact (pa_cons pe_int pa_nil)
   case' c17 => refine' pa_cons ?c38 ?c39
   case' c38 => refine' pe_lst ?c40
   case' c40 => refine' pa_cons ?c41 ?c42
   case' c41 => exact (pe_un (UnR.f un_neg) pe_int)
   case' c42 => refine' pa_cons ?c43 ?c44
   case' c43 => exact (pe_un (UnR.f un_neg) pe_int)
   case' c44 => refine' pa_cons ?c45 ?c46
   case' c45 => exact (pe_un (UnR.f un_neg) pe_int)
   case' c46 => refine' pa_cons ?c47 pa_nil
   case' c47 => exact (pe_un (UnR.f un_neg) pe_int)
   case c39 => exact pa_nil
  case rest =>
   obtain ⟨hp, h1, h2, h⟩ := h
   simp only [L2.start, List.map_cons, List.map_nil, List.length_cons, List.length_nil, Nat.reduceAdd, Nat.reduceSub, List.replicate_succ, List.replicate_zero, List.cons_append, List.nil_append, List.append_nil]
   o_head ⟨tRaiseN, tAt, tTryN, sp_check_box⟩
   refine ⟨_, _, _, _, hp, h1, h2, ?_⟩
   o_head ⟨tRaiseN, tAt, tTryN, gSeqF, gCons, gNil, hp⟩
   refine ⟨by decide, fun q1 k1 => ⟨by decide, fun q2 k2 => ⟨by decide, fun q3 k3 => ⟨by decide, fun q4 k4 => ⟨by decide, fun c kc => ⟨by decide, fun e ke => ⟨by decide, fun t kt => ?_⟩⟩⟩⟩⟩⟩⟩
   have x4 := (((Ext.upd (o := .tup [.int x, .int y, .int 1]) k1).then (o := .tup [.int u, .int y, .int 1]) k2).then (o := .tup [.int u, .int v, .int 1]) k3).then (o := .tup [.int x, .int v, .int 1]) k4
   have x5 := x4.then (o := .lst [.ref q1, .ref q2, .ref q3, .ref q4]) kc
   have x6 := x5.then (o := .lst [.int (-1), .int (-2), .int (-3), .int (-4)]) ke
   refine h t c e [q1, q2, q3, q4] _ (x6.then kt) ⟨x6.none kt, x4.none kc, x5.none ke, ne_of_none upd_same ke⟩ ⟨upd_same, upd_f kt (upd_f ke upd_same), ⟨rfl, fun i q z a b => ?_⟩, upd_f kt upd_same⟩
   have p1 := upd_f (o := .tup [.ref c, .ref e]) kt (upd_f (o := .lst [.int (-1), .int (-2), .int (-3), .int (-4)]) ke (upd_f (o := .lst [.ref q1, .ref q2, .ref q3, .ref q4]) kc (upd_f (o := .tup [.int x, .int v, .int 1]) k4 (upd_f (o := .tup [.int u, .int v, .int 1]) k3 (upd_f (o := .tup [.int u, .int y, .int 1]) k2 (upd_same (H := H) (a := q1) (o := .tup [.int x, .int y, .int 1])))))))
   have p2 := upd_f (o := .tup [.ref c, .ref e]) kt (upd_f (o := .lst [.int (-1), .int (-2), .int (-3), .int (-4)]) ke (upd_f (o := .lst [.ref q1, .ref q2, .ref q3, .ref q4]) kc (upd_f (o := .tup [.int x, .int v, .int 1]) k4 (upd_f (o := .tup [.int u, .int v, .int 1]) k3 (upd_same (a := q2) (o := .tup [.int u, .int y, .int 1]))))))
   have p3 := upd_f (o := .tup [.ref c, .ref e]) kt (upd_f (o := .lst [.int (-1), .int (-2), .int (-3), .int (-4)]) ke (upd_f (o := .lst [.ref q1, .ref q2, .ref q3, .ref q4]) kc (upd_f (o := .tup [.int x, .int v, .int 1]) k4 (upd_same (a := q3) (o := .tup [.int u, .int v, .int 1])))))
   have p4 := upd_f (o := .tup [.ref c, .ref e]) kt (upd_f (o := .lst [.int (-1), .int (-2), .int (-3), .int (-4)]) ke (upd_f (o := .lst [.ref q1, .ref q2, .ref q3, .ref q4]) kc (upd_same (a := q4) (o := .tup [.int x, .int v, .int 1]))))
   match i, a, b with
   | 0, a, b => cases a; cases b; exact p1
   | 1, a, b => cases a; cases b; exact p2
   | 2, a, b => cases a; cases b; exact p3
   | 3, a, b => cases a; cases b; exact p4
   | i + 4, a, b => cases a
end
end LW
namespace LW
open PySem L2 MA PyProof.Rows MC
section
variable {P : Program} {w : World} {K : PySem.W.Frag} {mg : Str → Option Value} {base : Heap}
theorem sc_crossing : FnScope ["one", "other", "here", "there"] ["one", "other", "here", "there"] (defScope s_crossing) := ⟨rfl, rfl, rfl, by decide +kernel, rfl, by decide +kernel, by decide +kernel⟩
set_option maxHeartbeats 0 in
theorem ok_crossing {C : Cz} {f : Addr} {fd : FuncData} (F : Fun K "crossing" "crossing" s_crossing f fd) (T : Txt P K mg C) (F_point_of : FnB P w K mg base (CXE P w) 2 "point_of" ["x", "y", "w"] sp_point_of) : FnOk P w K mg base (CXE P w) 3 f fd ["one", "other", "here", "there"] sp_crossing := by
 refine okN F (k := 2) sc_crossing (fun vs H Q E h => ?_) (fun cdv A outer s H vs Q E hr h => ?_)
 ·obtain ⟨p, q, hh, t, a, b, rfl, _⟩ := h
  rfl
 ·obtain ⟨p, q, hh, t, a, b, rfl, h⟩ := h
  refine' ⟨_, ?main, ?rest⟩
  case main =>
   refine' pss_one ?c1
   case' c1 => refine' ps_ret ?c2
   case' c2 => refine' pe_fn ?c3 ?c4 ?c5 ?c6 ?c7
   case c3 => exact F_point_of
   case c4 => exact (hr.mono (by decide))
   case c5 => exact rfl
   case c6 => exact passE0
   case' c7 => refine' pa_cons ?c8 ?c9
   case' c8 => refine' pe_op (OpR.f0 op_sub) ?c10 ?c11
   case' c10 => refine' pe_op (OpR.f op_mulA) ?c12 (pvF 3)
   case' c12 => exact (pe_ix ix_F (pvF 0) pe_int (fun _ _ => rfl))
   case' c11 => refine' pe_op (OpR.f op_mulA) ?c13 (pvF 2)
   case' c13 => exact (pe_ix ix_F (pvF 1) pe_int (fun _ _ => rfl))
   case' c9 => refine' pa_cons ?c14 ?c15
   case' c14 => refine' pe_op (OpR.f0 op_sub) ?c16 ?c17
   case' c16 => refine' pe_op (OpR.f op_mulA) ?c18 (pvF 3)
   case' c18 => exact (pe_ix ix_F (pvF 0) pe_int (fun _ _ => rfl))
   case' c17 => refine' pe_op (OpR.f op_mulA) ?c19 (pvF 2)
   case' c19 => exact (pe_ix ix_F (pvF 1) pe_int (fun _ _ => rfl))
   case' c15 => refine' pa_cons ?c20 pa_nil
   case' c20 => refine' pe_op (OpR.f0 op_sub) ?c21 ?c22
   case' c21 => refine' pe_op (OpR.f op_mulA) ?c23 (pvF 3)
   case' c23 => exact (pe_ix ix_F (pvF 0) pe_int (fun _ _ => rfl))
   case' c22 => refine' pe_op (OpR.f op_mulA) ?c24 (pvF 2)
   case' c24 => exact (pe_ix ix_F (pvF 1) pe_int (fun _ _ => rfl))
  case rest =>
   obtain ⟨hp, hq, ⟨b1, b2, b3⟩, ⟨b4, b5, b6⟩, bh, bt, hw, h⟩ := h
   simp only [L2.start, List.map_cons, List.map_nil, List.length_cons, List.length_nil, Nat.reduceAdd, Nat.reduceSub, List.replicate_succ, List.replicate_zero, List.cons_append, List.nil_append, List.append_nil]
   o_head ⟨tRaiseN, tAt, tTryN, hp, hq, sp_point_of⟩
   have bw : Bd 8000 (a.2.2 * t - b.2.2 * hh) := ((b3.mul bt).sub (b6.mul bh)).mono (by decide)
   refine ⟨.of b1 bt (by decide) (by decide), .of b4 bh (by decide) (by decide), .of b2 bt (by decide) (by decide), .of b5 bh (by decide) (by decide), .of b3 bt (by decide) (by decide), .of b6 bh (by decide) (by decide), hw, bw, fun r x1 y1 w1 hr' k1 => ?_⟩
   have k2 := isPt_of (x := a.1 * t - b.1 * hh) (y := a.2.1 * t - b.2.1 * hh) hw
   obtain ⟨e1, e2, e3⟩ := isPt_same k1 k2 hw hw rfl rfl
   rw [e1, e2, e3]
   exact h r hr'
end
end LW
namespace LW
open PySem L2 MA PyProof.Rows MC
section
variable {P : Program} {w : World} {K : PySem.W.Frag} {mg : Str → Option Value} {base : Heap}
theorem sc_rest : FnScope ["corners", "edges", "excesses", "number", "left", "at", "corner", "following", "here", "there"] ["corners", "edges", "excesses", "number"] (defScope s_rest) := ⟨rfl, rfl, rfl, by decide +kernel, rfl, by decide +kernel, by decide +kernel⟩
set_option maxHeartbeats 0 in
theorem ok_rest {C : Cz} {f : Addr} {fd : FuncData} (F : Fun K "rest" "rest" s_rest f fd) (T : Txt P K mg C) (F_crossing : FnB P w K mg base (CXE P w) 3 "crossing" ["one", "other", "here", "there"] sp_crossing) : FnOk P w K mg base (CXE P w) 4 f fd ["corners", "edges", "excesses", "number"] (sp_rest K) := by
 refine okN F (k := 3) sc_rest (fun vs H Q E h => ?_) (fun cdv A outer s H vs Q E hr h => ?_)
 ·obtain ⟨c, e, x, num, qs, l, m, rfl, _⟩ := h
  rfl
 ·obtain ⟨c, e, x, num, qs, l, m, rfl, h⟩ := h
  refine' ⟨_, ?main, ?rest⟩
  case main =>
   refine' pss_cons ?c1 ?c2
   case' c1 => refine' ps_set (i := 4) sc_rest.nd rfl (Or.inl rfl) ?c3
   case' c3 => exact (pe_lst pa_nil)
   case' c2 => refine' pss_cons ?c4 ?c5
   case' c4 => refine' ps_for ?c6 ?c7 ?c8 ?c9 ?c10
   case c6 => exact PassesOwn.never
   case c7 => exact rfl
   case' c8 => refine' pi_enum (K := K) rfl rfl T.b_enumerate ?c11
   case' c11 => exact (pa_cons (pvF 0) pa_nil)
   case' c9 => refine' pg_F (n := 2) rfl ?c12
   case' c12 => refine' pgs_consF (pg_name (i := 5) sc_rest.nd rfl (Or.inl rfl)) ?c13
   case' c13 => exact (pgs_consF (pg_name (i := 6) sc_rest.nd rfl (Or.inl rfl)) pgs_nilF)
   case' c10 => refine' pss_cut ?c14 ?c15
   case' c14 => refine' ps_set (i := 7) sc_rest.nd rfl (Or.inl rfl) ?c16
   case' c16 => refine' pe_op (OpR.f op_mod) ?c17 ?c18
   case' c17 => exact (pe_op (OpR.f0 op_add) (pvF 5) pe_int)
   case' c18 => refine' pe_callB call_lenF (by rfl) T.b_len PySem.boot_len ?c19
   case' c19 => exact (pa_cons (pvF 0) pa_nil)
   case' c15 => refine' pss_cut ?c20 ?c21
   case' c20 => exact (ps_set (i := 8) sc_rest.nd rfl (Or.inl rfl) (pe_ix ix_F (pvF 2) (pvF 5) (fun _ _ => rfl)))
   case' c21 => refine' pss_cut ?c22 ?c23
   case' c22 => exact (ps_set (i := 9) sc_rest.nd rfl (Or.inl rfl) (pe_ix ix_F (pvF 2) (pvF 7) (fun _ _ => rfl)))
   case' c23 => refine' pss_cut ?c24 ?c25
   case' c24 => refine' ps_if ?c26 ?c27 ?c28
   case' c26 => refine' PW.pt ?c29
   case' c29 => refine' pw_or ?c30 ?c31
   case' c30 => exact (pt_cmpF (OpR.f0 op_lt) (pvF 8) pe_int (nomark _))
   case' c31 => refine' pw_or1 ?c32
   case' c32 => refine' PW.pt ?c33
   case' c33 => refine' pw_and ?c34 ?c35
   case' c34 => exact (pt_cmpF op_eqI (pvF 8) pe_int (nomark _))
   case' c35 => refine' pw_and1 ?c36
   case' c36 => exact (pt_cmpF (OpR.f0 op_le) (pvF 9) pe_int (nomark _))
   case' c27 => refine' pss_one ?c37
   case' c37 => refine' ps_expr ?c38
   case' c38 => refine' pe_app (pvF 4) ?c39
   case' c39 => refine' pa_cons ?c40 pa_nil
   case' c40 => refine' pe_tup ?c41
   case' c41 => refine' pa_cons (pvF 6) ?c42
   case' c42 => exact (pa_cons (pe_ix ix_F (pvF 1) (pvF 5) (fun _ _ => rfl)) pa_nil)
   case' c28 => refine' pss_one ?c43
   case' c43 => refine' ps_if ?c44 ?c45 ?c46
   case' c44 => exact (pt_cmpF op_eqI (pvF 8) pe_int (nomark _))
   case' c45 => refine' pss_one ?c47
   case' c47 => refine' ps_expr ?c48
   case' c48 => refine' pe_app (pvF 4) ?c49
   case' c49 => refine' pa_cons ?c50 pa_nil
   case' c50 => refine' pe_tup ?c51
   case' c51 => refine' pa_cons (pvF 6) ?c52
   case' c52 => exact (pa_cons (pvF 3) pa_nil)
   case c46 => exact pss_nil
   case' c25 => refine' pss_one ?c53
   case' c53 => refine' ps_if ?c54 ?c55 ?c56
   case' c54 => refine' PW.pt ?c57
   case' c57 => refine' pw_and ?c58 ?c59
   case' c58 => exact (pt_cmpF (OpR.f0 op_lt) (pvF 8) pe_int (nomark _))
   case' c59 => refine' pw_and1 ?c60
   case' c60 => exact (pt_cmpF (OpR.f0 op_gt) (pvF 9) pe_int (nomark _))
   case' c55 => refine' pss_one ?c61
   case' c61 => refine' ps_expr ?c62
   case' c62 => refine' pe_app ?c63 ?c64
   case c63 => exact (pvF 4)
   case' c64 => refine' pa_cons ?c65 ?c66
   case' c65 => refine' pe_tup ?c67
   case' c67 => refine' pa_cons ?c68 ?c69
   case' c68 => refine' pe_fn F_crossing (hr.mono (by decide)) rfl passE0 ?c70
   case' c70 => refine' pa_cons (pvF 6) ?c71
   case' c71 => refine' pa_cons (pe_ix ix_F (pvF 0) (pvF 7) (fun _ _ => rfl)) ?c72
   case' c72 => refine' pa_cons (pvF 8) ?c73
   case' c73 => exact (pa_cons (pvF 9) pa_nil)
   case' c69 => exact (pa_cons (pvF 3) pa_nil)
   case c66 => exact pa_nil
   case' c56 => refine' pss_one ?c74
   case' c74 => refine' ps_if ?c75 ?c76 ?c77
   case' c75 => refine' PW.pt ?c78
   case' c78 => refine' pw_and ?c79 ?c80
   case' c79 => exact (pt_cmpF (OpR.f0 op_gt) (pvF 8) pe_int (nomark _))
   case' c80 => refine' pw_and1 ?c81
   case' c81 => exact (pt_cmpF (OpR.f0 op_lt) (pvF 9) pe_int (nomark _))
   case' c76 => refine' pss_one ?c82
   case' c82 => refine' ps_expr ?c83
   case' c83 => refine' pe_app ?c84 ?c85
   case c84 => exact (pvF 4)
   case' c85 => refine' pa_cons ?c86 ?c87
   case' c86 => refine' pe_tup ?c88
   case' c88 => refine' pa_cons ?c89 ?c90
   case' c89 => refine' pe_fn F_crossing (hr.mono (by decide)) rfl passE0 ?c91
   case' c91 => refine' pa_cons (pvF 6) ?c92
   case' c92 => refine' pa_cons (pe_ix ix_F (pvF 0) (pvF 7) (fun _ _ => rfl)) ?c93
   case' c93 => refine' pa_cons (pvF 8) ?c94
   case' c94 => exact (pa_cons (pvF 9) pa_nil)
   case' c90 => exact (pa_cons (pe_ix ix_F (pvF 1) (pvF 5) (fun _ _ => rfl)) pa_nil)
   case c87 => exact pa_nil
   case c77 => exact pss_nil
   case' c5 => exact (pss_one (ps_ret (pvF 4)))
  case rest =>
   obtain ⟨hc, hq, he, hx, hl, bm, l0, l30, h⟩ := h
   simp only [L2.start, List.map_cons, List.map_nil, List.length_cons, List.length_nil, Nat.reduceAdd, Nat.reduceSub, List.replicate_succ, List.replicate_zero, List.cons_append, List.nil_append, List.append_nil]
   o_head ⟨tRaiseN, tAt, tTryN⟩
   refine ⟨Nat.zero_le _, fun L hL => ?_⟩
   have lq : qs.length = l.length := by rw [hq.1, List.length_map]
   refine tfor_enum (fun a' H1 => a' = c ∧ H1 = upd H L (.lst [])) ?_ ?_
   ·intro R hR
    o_head ⟨tRaiseN, tAt, tTryN⟩
    exact hR _ _ ⟨rfl, rfl⟩
   ·rintro c' _ ⟨ec, rfl⟩
    subst c'
    refine ⟨qs.map V.ref, fun i σ H' => ∃ (o5 o6 o7 o8 o9 : Option V) (ts : List Addr), σ = [some (.ref c), some (.ref e), some (.ref x), some (.int num), some (.ref L), o5, o6, o7, o8, o9] ∧ H' L = some (.lst (ts.map V.ref)) ∧ RwAt H' ts (((edges l).take i).flatMap (emit m num)) ∧ Ext H H', ⟨_, _, _, _, _, [], rfl, upd_same, ⟨rfl, fun i t v a => by simp at a⟩, .upd hL⟩, ?_, ?_, ?_⟩
    ·rintro i σ H' _ ⟨o5, o6, o7, o8, o9, ts, rfl, eL, rw', x'⟩
     exact SqL.of (x' _ _ hc)
    ·rintro i w1 t σ H' hi ⟨o5, o6, o7, o8, o9, ts, rfl, eL, rw', x'⟩ ht
     obtain ⟨q, hqi, rfl⟩ := refs_get hi
     have li : i < l.length := by rw [← lq]; exact (List.getElem?_eq_some_iff.mp hqi).1
     obtain ⟨va, hva⟩ : ∃ v, l[i]? = some v := ⟨_, List.getElem?_eq_getElem li⟩
     have lj : (i + 1) % l.length < l.length := Nat.mod_lt _ l0
     obtain ⟨vb, hvb⟩ : ∃ v, l[(i + 1) % l.length]? = some v := ⟨_, List.getElem?_eq_getElem lj⟩
     obtain ⟨qb, hqb⟩ : ∃ q, qs[(i + 1) % l.length]? = some q := ⟨_, List.getElem?_eq_getElem (by rw [lq]; exact lj)⟩
     have hE := edges_get hva hvb
     have ha := hl va (List.mem_of_getElem? hva)
     have hb := hl vb (List.mem_of_getElem? hvb)
     have eqa := hq.2 i q va.1 hqi (by rw [List.getElem?_map, hva]; rfl)
     have eqb := hq.2 _ qb vb.1 hqb (by rw [List.getElem?_map, hvb]; rfl)
     have bh : Bd 3000 (ex m va.1) := ex_bd bm ha.2
     have bt : Bd 3000 (ex m vb.1) := ex_bd bm hb.2
     have xt := x'.then (o := .tup [.int (i : Int), .ref q]) ht
     have et := upd_same (H := H') (a := t) (o := .tup [.int (i : Int), .ref q])
     have eLt := upd_f (o := .tup [.int (i : Int), .ref q]) ht eL
     have rwt := rw'.ext (Ext.upd (o := .tup [.int (i : Int), .ref q]) ht)
     generalize upd H' t (.tup [.int (i : Int), .ref q]) = H2 at xt et eLt rwt ⊢
     o_head ⟨tRaiseN, tAt, tTryN, gSeqF, gCons, gNil, et⟩
     refine ⟨fun σ H3 => σ = [some (.ref c), some (.ref e), some (.ref x), some (.int num), some (.ref L), some (.int (i : Int)), some (.ref q), some (.int (((i + 1) % l.length : Nat) : Int)), o8, o9] ∧ H3 = H2, ?_, ?_⟩
     ·o_head ⟨tRaiseN, tAt, tTryN, xt _ _ hc, List.length_map⟩
      rw [lq]
      exact ⟨by omega, by rw [Int.natCast_emod]; rfl⟩
     ·rintro σ H3 ⟨rfl, rfl⟩
      have ai : atI ((l.map fun v => ex m v.1).map V.int) (i : Int) = some (.int (ex m va.1)) := atI_nat (by rw [List.getElem?_map, List.getElem?_map, hva]; rfl)
      have aj : atI ((l.map fun v => ex m v.1).map V.int) (((i + 1) % l.length : Nat) : Int) = some (.int (ex m vb.1)) := atI_nat (by rw [List.getElem?_map, List.getElem?_map, hvb]; rfl)
      have an : atI ((l.map (·.2.2)).map V.int) (i : Int) = some (.int va.2.2) := atI_nat (by rw [List.getElem?_map, List.getElem?_map, hva]; rfl)
      have ac : atI (qs.map V.ref) (((i + 1) % l.length : Nat) : Int) = some (.ref qb) := atI_nat (by rw [List.getElem?_map, hqb]; rfl)
      refine ⟨fun σ H4 => σ = [some (.ref c), some (.ref e), some (.ref x), some (.int num), some (.ref L), some (.int (i : Int)), some (.ref q), some (.int (((i + 1) % l.length : Nat) : Int)), some (.int (ex m va.1)), o9] ∧ H4 = H3, ?_, ?_⟩
      ·o_head ⟨tRaiseN, tAt, tTryN, xt _ _ hx, ai⟩
      ·rintro σ H4 ⟨rfl, rfl⟩
       refine ⟨fun σ H5 => σ = [some (.ref c), some (.ref e), some (.ref x), some (.int num), some (.ref L), some (.int (i : Int)), some (.ref q), some (.int (((i + 1) % l.length : Nat) : Int)), some (.int (ex m va.1)), some (.int (ex m vb.1))] ∧ H5 = H4, ?_, ?_⟩
       ·o_head ⟨tRaiseN, tAt, tTryN, xt _ _ hx, aj⟩
       ·rintro σ H5 ⟨rfl, rfl⟩
        have len30 : ts.length ≤ 60 := by
         rw [rwt.1]
         exact emit_len m num l i l30
        refine ⟨fun σ H6 => ∃ ts' : List Addr, σ = [some (.ref c), some (.ref e), some (.ref x), some (.int num), some (.ref L), some (.int (i : Int)), some (.ref q), some (.int (((i + 1) % l.length : Nat) : Int)), some (.int (ex m va.1)), some (.int (ex m vb.1))] ∧ H6 L = some (.lst (ts'.map V.ref)) ∧ ts'.length ≤ 61 ∧ RwAt H6 ts' (((edges l).take i).flatMap (emit m num) ++ (if ex m va.1 < 0 ∨ (ex m va.1 = 0 ∧ ex m vb.1 ≤ 0) then [va] else if ex m va.1 = 0 then [(va.1, m, num)] else [])) ∧ Ext H H6, ?_, ?_⟩
        ·o_head ⟨tRaiseN, tAt, tTryN, xt _ _ he, an, eLt⟩
         have one : ∀ (p : Addr) (v : Vx), v.1 = va.1 → H5 p = none → optK (lstOf (upd H5 p (.tup [.ref q, .int v.2.2]) L)) fun xs => xs.length < 1000000 ∧ ∃ ts' : List Addr, HO.lst (xs ++ [V.ref p]) = HO.lst (List.map V.ref ts') ∧ ts'.length ≤ 61 ∧ RwAt (upd (upd H5 p (.tup [.ref q, .int v.2.2])) L (.lst (xs ++ [V.ref p]))) ts' (((edges l).take i).flatMap (emit m num) ++ [v]) ∧ Ext H (upd (upd H5 p (.tup [.ref q, .int v.2.2])) L (.lst (xs ++ [V.ref p]))) := by
          intro p v ev hp
          obtain ⟨A1, A2, A3⟩ := row_app (v := v) hL eLt xt rwt hp (by rw [ev]; exact xt _ _ eqa)
          rw [A1, lstOf_l, optK_some]
          exact ⟨by rw [List.length_map]; omega, ts ++ [p], by rw [map_snoc], by rw [List.length_append]; simp only [List.length_cons, List.length_nil]; omega, A2, A3⟩
         by_cases h1 : ex m va.1 < 0
         ·rw [if_pos h1, if_pos (.inl h1)]
          exact ⟨by decide, fun p hp => one p va rfl hp⟩
         ·rw [if_neg h1]
          by_cases h2 : ex m va.1 = 0
          ·rw [if_pos h2]
           by_cases h3 : ex m vb.1 ≤ 0
           ·rw [if_pos h3, if_pos (.inr ⟨h2, h3⟩)]
            exact ⟨by decide, fun p hp => one p va rfl hp⟩
           ·rw [if_neg h3, if_pos h2, if_neg (fun z : _ ∨ _ => z.elim h1 fun z => h3 z.2), if_pos h2]
            exact ⟨by decide, fun p hp => one p (va.1, m, num) rfl hp⟩
          ·rw [if_neg h2, if_neg h2, if_neg (fun z : _ ∨ _ => z.elim h1 fun z => h2 z.1), if_neg h2, List.append_nil]
           exact ⟨ts, rfl, by omega, rwt, xt⟩
        ·rintro σ H6 ⟨ts', rfl, eL6, len61, rw6, x6⟩
         have el1 : ((edges l).take (i + 1)).flatMap (emit m num) = (((edges l).take i).flatMap (emit m num) ++ (if ex m va.1 < 0 ∨ (ex m va.1 = 0 ∧ ex m vb.1 ≤ 0) then [va] else if ex m va.1 = 0 then [(va.1, m, num)] else [])) ++ (if ex m va.1 < 0 ∧ 0 < ex m vb.1 then [(crossPt va.1 vb.1 (ex m va.1) (ex m vb.1), m, num)] else if 0 < ex m va.1 ∧ ex m vb.1 < 0 then [(crossPt va.1 vb.1 (ex m va.1) (ex m vb.1), va.2)] else []) := by
          rw [List.take_succ, hE, List.flatMap_append, List.append_assoc]
          simp only [Option.toList_some, List.flatMap_cons, List.flatMap_nil, List.append_nil]
          rfl
         rw [el1]
         generalize (((edges l).take i).flatMap (emit m num) ++ (if ex m va.1 < 0 ∨ (ex m va.1 = 0 ∧ ex m vb.1 ≤ 0) then [va] else if ex m va.1 = 0 then [(va.1, m, num)] else [])) = R1 at rw6 ⊢
         o_head ⟨tRaiseN, tAt, tTryN, x6 _ _ hc, ac, eL6, sp_crossing⟩
         have two : ∀ (H1 : Hp) (r p : Addr) (v : Vx), v.1 = crossPt va.1 vb.1 (ex m va.1) (ex m vb.1) → H6 r = none → H1 = upd H6 r (.tup [.int (crossPt va.1 vb.1 (ex m va.1) (ex m vb.1)).1, .int (crossPt va.1 vb.1 (ex m va.1) (ex m vb.1)).2.1, .int (crossPt va.1 vb.1 (ex m va.1) (ex m vb.1)).2.2]) → H1 p = none → optK (lstOf (upd H1 p (.tup [.ref r, .int v.2.2]) L)) fun xs => xs.length < 1000000 ∧ (∃ x, some (V.int (ex m vb.1)) = x) ∧ ∃ ts' : List Addr, HO.lst (xs ++ [V.ref p]) = HO.lst (List.map V.ref ts') ∧ RwAt (upd (upd H1 p (.tup [.ref r, .int v.2.2])) L (.lst (xs ++ [V.ref p]))) ts' (R1 ++ [v]) ∧ Ext H (upd (upd H1 p (.tup [.ref r, .int v.2.2])) L (.lst (xs ++ [V.ref p]))) := by
          intro H1 r p v ev hr eH hp
          subst eH
          obtain ⟨A1, A2, A3⟩ := row_app (v := v) hL (upd_f hr eL6) (x6.then hr) (rw6.ext (Ext.upd hr)) hp (by rw [ev]; exact upd_same)
          rw [A1, lstOf_l, optK_some]
          exact ⟨by rw [List.length_map]; omega, ⟨_, rfl⟩, ts' ++ [p], by rw [map_snoc], A2, A3⟩
         have nz1 : ex m va.1 < 0 → 0 < ex m vb.1 → ¬va.1.2.2 * ex m vb.1 - vb.1.2.2 * ex m va.1 = 0 := fun q1 q2 => by
          exact Int.ne_of_gt (Int.sub_pos_of_lt (Int.lt_trans (Int.mul_neg_of_pos_of_neg hb.1 q1) (Int.mul_pos ha.1 q2)))
         have nz2 : 0 < ex m va.1 → ex m vb.1 < 0 → ¬va.1.2.2 * ex m vb.1 - vb.1.2.2 * ex m va.1 = 0 := fun q1 q2 => by
          exact Int.ne_of_lt (Int.sub_neg_of_lt (Int.lt_trans (Int.mul_neg_of_pos_of_neg ha.1 q2) (Int.mul_pos hb.1 q1)))
         by_cases h1 : ex m va.1 < 0
         ·rw [if_pos h1]
          by_cases h2 : 0 < ex m vb.1
          ·rw [if_pos h2, if_pos ⟨h1, h2⟩]
           exact ⟨va.1, x6 _ _ eqa, vb.1, x6 _ _ eqb, ha.2, hb.2, bh, bt, nz1 h1 h2, fun r hr => ⟨by decide, fun p hp => two _ r p (_, m, num) rfl hr rfl hp⟩⟩
          ·rw [if_neg h2, if_neg (Int.lt_asymm h1), if_neg fun z => h2 z.2, if_neg fun z => Int.lt_asymm h1 z.1, List.append_nil]
           exact ⟨⟨_, rfl⟩, ts', rfl, rw6, x6⟩
         ·rw [if_neg h1]
          by_cases h2 : 0 < ex m va.1
          ·rw [if_pos h2]
           by_cases h3 : ex m vb.1 < 0
           ·rw [if_pos h3, if_neg fun z => h1 z.1, if_pos ⟨h2, h3⟩]
            refine ⟨va.1, x6 _ _ eqa, vb.1, x6 _ _ eqb, ha.2, hb.2, bh, bt, nz2 h2 h3, fun r hr => ?_⟩
            rw [upd_f hr (x6 _ _ he), seqOf_l, optK_some, an, optK_some]
            exact ⟨by decide, fun p hp => two _ r p (_, va.2) rfl hr rfl hp⟩
           ·rw [if_neg h3, if_neg fun z => h1 z.1, if_neg fun z => h3 z.2, List.append_nil]
            exact ⟨⟨_, rfl⟩, ts', rfl, rw6, x6⟩
          ·rw [if_neg h2, if_neg fun z => h1 z.1, if_neg fun z => h2 z.1, List.append_nil]
           exact ⟨⟨_, rfl⟩, ts', rfl, rw6, x6⟩
    ·rintro σ H' ⟨o5, o6, o7, o8, o9, ts, rfl, eL, rw', x'⟩
     have el : (edges l).take (qs.map V.ref).length = edges l := by
      rw [List.length_map, lq]
      exact List.take_of_length_le (by rw [edges_length]; exact Nat.le_refl _)
     rw [el] at rw'
     o_head ⟨tRaiseN, tAt, tTryN⟩
     exact h L ts H' x' hL eL rw'
end
end LW
namespace LW
open PySem L2 MA PyProof.Rows MC
section
variable {P : Program} {w : World} {K : PySem.W.Frag} {mg : Str → Option Value} {base : Heap}
theorem sc_from_first : FnScope ["rows", "first", "at", "row", "turned"] ["rows"] (defScope s_from_first) := ⟨rfl, rfl, rfl, by decide +kernel, rfl, by decide +kernel, by decide +kernel⟩
set_option maxHeartbeats 0 in
theorem ok_from_first {C : Cz} {f : Addr} {fd : FuncData} (F : Fun K "from_first" "from_first" s_from_first f fd) (T : Txt P K mg C) (F_ahead : FnB P w K mg base (CXE P w) 1 "ahead" ["one", "other"] sp_ahead) : FnOk P w K mg base (CXE P w) 2 f fd ["rows"] (sp_from_first K) := by
 refine okN F (k := 1) sc_from_first (fun vs H Q E h => ?_) (fun cdv A outer s H vs Q E hr h => ?_)
 ·obtain ⟨t, ts, R, rfl, _⟩ := h
  rfl
 ·obtain ⟨t, ts, R, rfl, h⟩ := h
  refine' ⟨_, ?main, ?rest⟩
  case main =>
   refine' pss_cons ?c1 ?c2
   case' c1 => exact (ps_set (i := 1) sc_from_first.nd rfl (Or.inl rfl) pe_int)
   case' c2 => refine' pss_cons ?c3 ?c4
   case' c3 => refine' ps_for ?c5 ?c6 ?c7 ?c8 ?c9
   case c5 => exact PassesOwn.never
   case c6 => exact rfl
   case' c7 => refine' pi_enum (K := K) rfl rfl T.b_enumerate ?c10
   case' c10 => exact (pa_cons (pvF 0) pa_nil)
   case' c8 => refine' pg_F (n := 2) rfl ?c11
   case' c11 => refine' pgs_consF (pg_name (i := 2) sc_from_first.nd rfl (Or.inl rfl)) ?c12
   case' c12 => exact (pgs_consF (pg_name (i := 3) sc_from_first.nd rfl (Or.inl rfl)) pgs_nilF)
   case' c9 => refine' pss_one ?c13
   case' c13 => refine' ps_if ?c14 ?c15 ?c16
   case' c14 => refine' pt_valF ?c17
   case' c17 => refine' pe_fn F_ahead (hr.mono (by decide)) rfl passE0 ?c18
   case' c18 => refine' pa_cons ?c19 ?c20
   case' c19 => exact (pe_ix ix_F (pvF 3) pe_int (fun _ _ => rfl))
   case' c20 => refine' pa_cons ?c21 pa_nil
   case' c21 => exact (pe_ix ix_F (pe_ix ix_F (pvF 0) (pvF 1) (fun _ _ => rfl)) pe_int (fun _ _ => rfl))
   case' c15 => exact (pss_one (ps_set (i := 1) sc_from_first.nd rfl (Or.inl rfl) (pvF 2)))
   case c16 => exact pss_nil
   case' c4 => refine' pss_cut ?c22 ?c23
   case' c22 => refine' ps_set (i := 4) sc_from_first.nd rfl (Or.inl rfl) ?c24
   case' c24 => refine' pe_op op_catF ?c25 ?c26
   case' c25 => exact (pe_slice sl_F (pvF 0) (po_some (pvF 1)) po_none)
   case' c26 => exact (pe_slice sl_F (pvF 0) po_none (po_some (pvF 1)))
   case' c23 => refine' pss_one ?c27
   case' c27 => refine' ps_ret ?c28
   case' c28 => refine' pe_tup ?c29
   case' c29 => refine' pa_cons ?c30 ?c31
   case' c30 => refine' pe_lc (CScope.of_ok (dsc := defScope s_from_first) (N0 := ["rows", "first", "at", "row", "turned"]) (N := ["row"]) (k := 1) (js := []) rfl rfl (by decide +kernel)) rfl (pi_listK (K := K) rfl (pvF 4)) ?c32 ?c33 ?c34
   case' c32 => intro _ _ _ _ _ _; exact (pg_name (i := 0) (by show List.Nodup (["row"] : List Str); decide +kernel) rfl (Or.inl rfl))
   case' c33 => intro _ _ _ _ _ _; exact pifs_nil
   case' c34 => intro _ _ _ _ _ _; exact (pe_ix ix_F (pvF 0) pe_int (fun _ _ => rfl))
   case' c31 => refine' pa_cons ?c35 ?c36
   case' c35 => refine' pe_lc (CScope.of_ok (dsc := defScope s_from_first) (N0 := ["rows", "first", "at", "row", "turned"]) (N := ["row"]) (k := 1) (js := []) rfl rfl (by decide +kernel)) rfl (pi_listK (K := K) rfl (pvF 4)) ?c37 ?c38 ?c39
   case' c37 => intro _ _ _ _ _ _; exact (pg_name (i := 0) (by show List.Nodup (["row"] : List Str); decide +kernel) rfl (Or.inl rfl))
   case' c38 => intro _ _ _ _ _ _; exact pifs_nil
   case' c39 => intro _ _ _ _ _ _; exact (pe_ix ix_F (pvF 0) pe_int (fun _ _ => rfl))
   case c36 => exact pa_nil
  case rest =>
   obtain ⟨ht, rw', hl, l0, l60, h⟩ := h
   have lt : ts.length = R.length := rw'.1
   simp only [L2.start, List.map_cons, List.map_nil, List.length_cons, List.length_nil, Nat.reduceAdd, Nat.reduceSub, List.replicate_succ, List.replicate_zero, List.cons_append, List.nil_append, List.append_nil]
   o_head ⟨tRaiseN, tAt, tTryN⟩
   refine tfor_enum (fun a' H1 => a' = t ∧ H1 = H) ?_ ?_
   ·intro R' hR
    o_head ⟨tRaiseN, tAt, tTryN⟩
    exact hR _ _ ⟨rfl, rfl⟩
   ·rintro t' H1 ⟨et, eH⟩
    subst t'
    subst H1
    refine ⟨ts.map V.ref, fun i σ H' => ∃ (j : Nat) (o2 o3 : Option V), σ = [some (.ref t), some (.int (j : Int)), o2, o3, none] ∧ j < R.length ∧ (∀ u, R[j]? = some u → ∀ v ∈ R.take i, ¬ Ahd v.1 u.1) ∧ Ext H H', ⟨0, _, _, rfl, l0, fun u _ v hv => by simp at hv, .refl _⟩, ?_, ?_, ?_⟩
    ·rintro i σ H' _ ⟨j, o2, o3, rfl, hj, mn, x'⟩
     exact SqL.of (x' _ _ ht)
    ·rintro i w1 p σ H' hi ⟨j, o2, o3, rfl, hj, mn, x'⟩ hp
     obtain ⟨ti, hti, rfl⟩ := refs_get hi
     have li : i < R.length := by rw [← lt]; exact (List.getElem?_eq_some_iff.mp hti).1
     obtain ⟨vi, hvi⟩ : ∃ v, R[i]? = some v := ⟨_, List.getElem?_eq_getElem li⟩
     obtain ⟨vj, hvj⟩ : ∃ v, R[j]? = some v := ⟨_, List.getElem?_eq_getElem hj⟩
     obtain ⟨tj, htj⟩ : ∃ v, ts[j]? = some v := ⟨_, List.getElem?_eq_getElem (by rw [lt]; exact hj)⟩
     obtain ⟨qi, r1, r2⟩ := rw'.2 i ti vi hti hvi
     obtain ⟨qj, r3, r4⟩ := rw'.2 j tj vj htj hvj
     have bi := hl vi (List.mem_of_getElem? hvi)
     have bj := hl vj (List.mem_of_getElem? hvj)
     have mo : ∀ {a : P3}, B3 601 a → B3 2000 a := fun q => ⟨q.1.mono (by decide), q.2.1.mono (by decide), q.2.2.mono (by decide)⟩
     have xt := x'.then (o := .tup [.int (i : Int), .ref ti]) hp
     have et := upd_same (H := H') (a := p) (o := .tup [.int (i : Int), .ref ti])
     generalize upd H' p (.tup [.int (i : Int), .ref ti]) = H2 at xt et ⊢
     simp only [tSeq, List.cons_inj_right, tNext, tIfS, tTest, tOp, tUn, rI, rI0, rU, tVar, tC, tAsg, gName, tRet, tRetN, tDrop, tCall, tCons, tNil, tCB, tTup, tLst, rEq, rNe, ixF, setF, gSub, tPar, tNot, tAnd, tOr, tB, tNotV, tAndV, tOrV, tIf, List.append_nil, List.getElem?_cons_zero, List.getElem?_cons_succ, List.set_cons_zero, List.set_cons_succ, Option.some.injEq, V.int.injEq, V.bl.injEq, V.ref.injEq, exists_eq_left', exists_eq_left, exists_eq_right, exists_and_left, exists_and_right, and_true, true_and, and_assoc, List.cons.injEq, optK_some, seqOf_l, seqOf_t, tYes, tIsN, tNotN, rLenK, tML, tML0, appR, popR, clrR, catF, listF, lenF, slF, tSl, tPart, tNoPart, tyN, isiF, isiT_1, isiT_2, isiT_3, isiT_4, isiT_5, isiT_6, isiT_7, lstOf_l, tup3_some, tup2_some, Option.isSome_some, List.dropLast, List.getLast?, L2.stLC, frV, List.map_cons, List.map_nil, List.replicate_succ, List.replicate_zero, List.cons_append, List.nil_append, List.drop_succ_cons, List.drop_zero, Option.join_some, atI_0, atI_1, atI_2, atI_3, scal, if_true, if_false, Bool.false_eq_true, Bool.true_eq_false, reduceIte, reduceCtorEq, decide_eq_true_eq, Bool.not_eq_true', decide_eq_false_iff_not, eq_self, List.length_cons, List.length_nil, Nat.zero_add, Nat.reduceAdd, Nat.reduceLT, upd_same, Int.cast_ofNat_Int, Int.reduceToNat, Int.reducePow, Int.reduceLE, Int.reduceLT, Int.reduceSub, Int.reduceAdd, Int.reduceMul, Int.reduceNeg, bd10, bd64, bd2, bd3, bd4, ixN_3_0, ixN_3_1, ixN_3_2, ixN_2_0, ixN_2_1, ixN_4_0, ixN_4_1, ixN_4_2, ixN_4_3, ne_eq, Int.reduceEq, not_false_eq_true, not_true_eq_false, false_or, or_false, false_and, and_false, exists_false, exists_const, tCont, tRaiseN, tAt, tTryN, tRaise, tRaise0, tTry, tCallS, goneEnds, tPar3, fVar, fI, fI0, fU, fTest, fCons, fNil, fEq, fNe, fNeB, tDg, tDp, dkOf_k, tDisp, tPairs, tDpT, tDNewT, tDgI, tDpI, tDgetI, popAtR, insR, revR, tDNewK, gSeqF, gCons, gNil, et, sp_ahead, xt _ _ r1, xt _ _ r2, xt _ _ ht, atI_nat (show (ts.map V.ref)[j]? = some (.ref tj) by rw [List.getElem?_map, htj]; rfl), xt _ _ r3, xt _ _ r4, aheadB_eq]
     refine ⟨mo bi.2, mo bj.2, ?_⟩
     by_cases q : Ahd vi.1 vj.1
     ·refine (if_pos q).mpr ⟨i, rfl, li, fun u hu v hv => ?_, xt⟩
      rw [hvi] at hu
      cases hu
      rw [List.take_succ, hvi] at hv
      rcases List.mem_append.mp hv with hv | hv
      ·exact fun z => mn vj hvj v hv (z.trans (hl v (List.mem_of_mem_take hv)).1 bi.1 bj.1 q)
      ·rw [Option.toList_some, List.mem_singleton] at hv
       rw [hv]
       exact Ahd.irr _
     ·refine (if_neg q).mpr ⟨j, rfl, hj, fun u hu v hv => ?_, xt⟩
      rw [hvj] at hu
      cases hu
      rw [List.take_succ, hvi] at hv
      rcases List.mem_append.mp hv with hv | hv
      ·exact mn vj hvj v hv
      ·rw [Option.toList_some, List.mem_singleton] at hv
       rw [hv]
       exact q
    ·rintro σ H' ⟨j, o2, o3, rfl, hj, mn, x'⟩
     have el : R.take (ts.map V.ref).length = R := by
      rw [List.length_map, lt]
      exact List.take_length
     rw [el] at mn
     refine ⟨fun σ H1 => ∃ D, σ = [some (.ref t), some (.int (j : Int)), o2, o3, some (.ref D)] ∧ H1 D = some (.lst ((rotk j ts).map V.ref)) ∧ Ext H H1, ?_, ?_⟩
     ·o_head ⟨tRaiseN, tAt, tTryN, x' _ _ ht, cut_from, cut_to⟩
      intro p hp
      rw [upd_f hp (x' _ _ ht), lstOf_l, optK_some]
      intro p1 hp1
      rw [upd_f hp1 upd_same, lstOf_l, optK_some]
      refine ⟨by rw [List.length_drop, List.length_take, List.length_map]; omega, fun p2 hp2 => ⟨?_, ((x'.then hp).then hp1).then hp2⟩⟩
      rw [rotk_map]
      rfl
     ·rintro σ H1 ⟨D, rfl, eD, x1⟩
      have rr := (rw'.rotk (k := j) (by omega)).ext x1
      have lr : ((rotk j ts).map V.ref).length = (rotk j R).length := by rw [List.length_map, rr.1]
      have lr' : (rotk j R).length = R.length := rotk_len j R
      o_head ⟨tRaiseN, tAt, tTryN⟩
      refine tlc_list (K := K) (a := D) (xs := (rotk j ts).map V.ref) (fun R h => by o_head ⟨tRaiseN, tAt, tTryN⟩; exact h) (SqL.of eD) (by omega) (fun D' i ys H' => ∃ qs' : List Addr, ys = qs'.map V.ref ∧ H' D' = some (.lst ys) ∧ CsAt H' qs' (((rotk j R).take i).map (·.1)) ∧ Ext H1 H') ?_ ?_ ?_ ?_
      ·intro D' hD'
       exact ⟨[], rfl, upd_same, ⟨rfl, fun i q z a => by simp at a⟩, .upd hD'⟩
      ·rintro D' i ys H2 _ ⟨qs', rfl, e2, c2, x2⟩
       refine ⟨e2, ?_, SqL.of (x2 _ _ eD)⟩
       rw [List.length_map, c2.1, List.length_map, List.length_take]
       omega
      ·rintro D' i w1 ys H2 hD' hi ⟨qs', rfl, e2, c2, x2⟩
       obtain ⟨ti, hti, rfl⟩ := refs_get hi
       have li : i < (rotk j R).length := by rw [← rr.1]; exact (List.getElem?_eq_some_iff.mp hti).1
       obtain ⟨vi, hvi⟩ : ∃ v, (rotk j R)[i]? = some v := ⟨_, List.getElem?_eq_getElem li⟩
       obtain ⟨q, r1, r2⟩ := rr.2 i ti vi hti hvi
       o_head ⟨tRaiseN, tAt, tTryN, x2 _ _ r1⟩
       refine ⟨e2, qs' ++ [q], by rw [List.map_append]; rfl, ?_, x2.set hD'⟩
       rw [List.take_succ, hvi, List.map_append]
       exact (c2.snoc (x2 _ _ r2)).setL e2
      ·rintro D' ys H2 hD' ⟨qs', rfl, e2, c2, x2⟩
       rw [lr, List.take_length] at c2
       have rr2 := rr.ext x2
       refine tlc_list (K := K) (a := D) (xs := (rotk j ts).map V.ref) (fun R h => by o_head ⟨tRaiseN, tAt, tTryN⟩; exact h) (SqL.of (x2 _ _ eD)) (by omega) (fun D2 i ys H' => ys = (((rotk j R).take i).map (·.2.2)).map V.int ∧ H' D2 = some (.lst ys) ∧ Ext H2 H') ?_ ?_ ?_ ?_
       ·intro D2 hD2
        exact ⟨rfl, upd_same, .upd hD2⟩
       ·rintro D2 i ys H3 _ ⟨rfl, e3, x3⟩
        refine ⟨e3, ?_, SqL.of (x3 _ _ (x2 _ _ eD))⟩
        rw [List.length_map, List.length_map, List.length_take]
        omega
       ·rintro D2 i w1 ys H3 hD2 hi ⟨rfl, e3, x3⟩
        obtain ⟨ti, hti, rfl⟩ := refs_get hi
        have li : i < (rotk j R).length := by rw [← rr.1]; exact (List.getElem?_eq_some_iff.mp hti).1
        obtain ⟨vi, hvi⟩ : ∃ v, (rotk j R)[i]? = some v := ⟨_, List.getElem?_eq_getElem li⟩
        obtain ⟨q, r1, r2⟩ := rr2.2 i ti vi hti hvi
        o_head ⟨tRaiseN, tAt, tTryN, x3 _ _ r1⟩
        refine ⟨e3, ?_, x3.set hD2⟩
        rw [List.take_succ, hvi]
        simp only [Option.toList, List.map_append, List.map_cons, List.map_nil]
       ·rintro D2 ys H3 hD2 ⟨rfl, e3, x3⟩
        rw [lr, List.take_length] at e3
        refine ⟨by decide, fun p hp => ?_⟩
        have xe := (x2.trans x3).then (o := .tup [.ref D', .ref D2]) hp
        refine h p D' D2 qs' (rotk j R) _ (x1.trans xe) ⟨(x1.trans (x2.trans x3)).none hp, x1.none hD', (x1.trans x2).none hD2, fun z => by rw [z, hD2] at e2; cases e2⟩ ⟨upd_same, upd_f hp (x3 _ _ e2), (c2.ext x3).ext (Ext.upd hp), upd_f hp e3⟩ (Rot.of j R) fun v hv u hu => ?_
        rw [rotk_head hj] at hu
        exact mn u hu v hv
end
end LW
namespace LW
open PySem L2 MA PyProof.Rows MC
section
variable {P : Program} {w : World} {K : PySem.W.Frag} {mg : Str → Option Value} {base : Heap}
theorem sc_cut : FnScope ["field", "line", "number", "corners", "edges", "excesses"] ["field", "line", "number"] (defScope s_cut) := ⟨rfl, rfl, rfl, by decide +kernel, rfl, by decide +kernel, by decide +kernel⟩
set_option maxHeartbeats 0 in
theorem ok_cut {C : Cz} {f : Addr} {fd : FuncData} (F : Fun K "cut" "cut" s_cut f fd) (T : Txt P K mg C) (F_rest : FnB P w K mg base (CXE P w) 4 "rest" ["corners", "edges", "excesses", "number"] (sp_rest K)) (F_from_first : FnB P w K mg base (CXE P w) 2 "from_first" ["rows"] (sp_from_first K)) (F_excess : FnB P w K mg base (CXE P w) 1 "excess" ["line", "point"] sp_excess) : FnOk P w K mg base (CXE P w) 5 f fd ["field", "line", "number"] (sp_cut K) := by
 refine okN F (k := 4) sc_cut (fun vs H Q E h => ?_) (fun cdv A outer s H vs Q E hr h => ?_)
 ·obtain ⟨f, ln, num, c, e, qs, l, m, rfl, _⟩ := h
  rfl
 ·obtain ⟨f, ln, num, c, e, qs, l, m, rfl, h⟩ := h
  refine' ⟨_, ?main, ?rest⟩
  case main =>
   refine' pss_cut ?c1 ?c2
   case' c1 => refine' ps_asg (pvF 0) ?c3
   case' c3 => refine' pg_F (n := 2) rfl ?c4
   case' c4 => refine' pgs_consF (pg_name (i := 3) sc_cut.nd rfl (Or.inl rfl)) ?c5
   case' c5 => exact (pgs_consF (pg_name (i := 4) sc_cut.nd rfl (Or.inl rfl)) pgs_nilF)
   case' c2 => refine' pss_cut ?c6 ?c7
   case' c6 => refine' ps_lc (i := 5) ?c8 ?c9 ?c10 ?c11 ?c12 ?c13 ?c14 ?c15 ?c16
   case c8 => exact (CScope.of_ok (dsc := defScope s_cut) (N0 := ["field", "line", "number", "corners", "edges", "excesses"]) (N := ["corner", "line"]) (k := 1) (js := [1]) rfl rfl (by decide +kernel))
   case c9 => exact rfl
   case c10 => exact (pi_listK (K := K) rfl (pvF 3))
   case' c11 => intro _ _ _ _ _ _; exact (pg_name (i := 0) (by show List.Nodup (["corner", "line"] : List Str); decide +kernel) rfl (Or.inl rfl))
   case' c12 => intro _ _ _ _ _ _; exact pifs_nil
   case' c13 => intro _ _ _ _ _ _; refine' pe_fn F_excess (hr.mono (by decide)) rfl passE0 ?c17
   case' c17 => refine' pa_cons (pvF 1) ?c18
   case' c18 => exact (pa_cons (pvF 0) pa_nil)
   case c14 => exact sc_cut.nd
   case c15 => exact rfl
   case c16 => exact rfl
   case' c7 => refine' pss_cons ?c19 ?c20
   case' c19 => refine' ps_if ?c21 ?c22 ?c23
   case' c21 => refine' pt_cmpF (OpR.f0 op_le) ?c24 pe_int (nomark _)
   case' c24 => refine' pe_callB (call_maxL (K := K) rfl rfl) (by rfl) T.b_max boot_max ?c25
   case' c25 => exact (pa_cons (pvF 5) pa_nil)
   case' c22 => refine' pss_one ?c26
   case' c26 => refine' ps_ret ?c27
   case' c27 => refine' pe_tup ?c28
   case' c28 => refine' pa_cons ?c29 ?c30
   case' c29 => refine' pe_callTy call_listF (by rfl) T.b_list boot_list ?c31
   case' c31 => exact (pa_cons (pvF 3) pa_nil)
   case' c30 => refine' pa_cons ?c32 pa_nil
   case' c32 => refine' pe_callTy call_listF (by rfl) T.b_list boot_list ?c33
   case' c33 => exact (pa_cons (pvF 4) pa_nil)
   case c23 => exact pss_nil
   case' c20 => refine' pss_cons ?c34 ?c35
   case' c34 => refine' ps_if ?c36 ?c37 ?c38
   case' c36 => refine' pt_cmpF (OpR.f0 op_ge) ?c39 pe_int (nomark _)
   case' c39 => refine' pe_callB (call_minL (K := K) rfl rfl) (by rfl) T.b_min boot_min ?c40
   case' c40 => exact (pa_cons (pvF 5) pa_nil)
   case' c37 => refine' pss_one ?c41
   case' c41 => exact (ps_ret pe_non)
   case c38 => exact pss_nil
   case' c35 => refine' pss_one ?c42
   case' c42 => refine' ps_ret ?c43
   case' c43 => refine' pe_fn F_from_first (hr.mono (by decide)) rfl passE0 ?c44
   case' c44 => refine' pa_cons ?c45 pa_nil
   case' c45 => refine' pe_fn F_rest (hr.mono (by decide)) rfl passE0 ?c46
   case' c46 => refine' pa_cons (pvF 3) ?c47
   case' c47 => refine' pa_cons (pvF 4) ?c48
   case' c48 => refine' pa_cons (pvF 5) ?c49
   case' c49 => exact (pa_cons (pvF 2) pa_nil)
  case rest =>
   obtain ⟨hf, hln, hP, hB, bm, l30, hN, hS, hR⟩ := h
   have bc : ∀ v ∈ l, 0 < v.1.2.2 ∧ B3 601 v.1 := fun v hv => ⟨hP.pos v hv, corner_bd hP hB hv⟩
   have lq : qs.length = l.length := by rw [hf.pt.1, List.length_map]
   have l3 := hP.three
   simp only [L2.start, List.map_cons, List.map_nil, List.length_cons, List.length_nil, Nat.reduceAdd, Nat.reduceSub, List.replicate_succ, List.replicate_zero, List.cons_append, List.nil_append, List.append_nil]
   refine ⟨fun σ H1 => σ = [some (.ref f), some (.ref ln), some (.int num), some (.ref c), some (.ref e), none] ∧ H1 = H, ?_, ?_⟩
   ·o_head ⟨tRaiseN, tAt, tTryN, hf.at_, gSeqF, gCons, gNil⟩
   ·rintro σ H1 ⟨rfl, eH⟩
    subst H1
    refine ⟨fun σ H1 => ∃ D, σ = [some (.ref f), some (.ref ln), some (.int num), some (.ref c), some (.ref e), some (.ref D)] ∧ H1 D = some (.lst ((l.map fun v => ex m v.1).map V.int)) ∧ Ext H H1, ?_, ?_⟩
    ·o_head ⟨tRaiseN, tAt, tTryN⟩
     refine tlc_list (K := K) (a := c) (xs := qs.map V.ref) (fun R h => by o_head ⟨tRaiseN, tAt, tTryN⟩; exact h) (SqL.of hf.cs) (by rw [List.length_map]; omega) (fun D i ys H' => ys = ((l.take i).map fun v => ex m v.1).map V.int ∧ H' D = some (.lst ys) ∧ Ext H H') ?_ ?_ ?_ ?_
     ·intro D hD
      exact ⟨rfl, upd_same, .upd hD⟩
     ·rintro D i ys H1 _ ⟨rfl, e1, x1⟩
      refine ⟨e1, ?_, SqL.of (x1 _ _ hf.cs)⟩
      rw [List.length_map, List.length_map, List.length_take]
      omega
     ·rintro D i w1 ys H1 hD hi ⟨rfl, e1, x1⟩
      obtain ⟨q, hq, rfl⟩ := refs_get hi
      have li : i < l.length := by rw [← lq]; exact (List.getElem?_eq_some_iff.mp hq).1
      obtain ⟨v, hv⟩ : ∃ v, l[i]? = some v := ⟨_, List.getElem?_eq_getElem li⟩
      have eqv := hf.pt.2 i q v.1 hq (by rw [List.getElem?_map, hv]; rfl)
      have bv := (bc v (List.mem_of_getElem? hv)).2
      o_head ⟨tRaiseN, tAt, tTryN, sp_excess, x1 _ _ hln, x1 _ _ eqv⟩
      refine ⟨⟨bm.1.mono (by decide), bm.2.1.mono (by decide), bm.2.2.mono (by decide)⟩, ⟨bv.1.mono (by decide), bv.2.1.mono (by decide), bv.2.2.mono (by decide)⟩, e1, ?_, x1.set hD⟩
      rw [List.take_succ, hv]
      simp only [Option.toList, List.map_append, List.map_cons, List.map_nil]
      rfl
     ·rintro D ys H1 hD ⟨rfl, e1, x1⟩
      rw [List.length_map, lq, List.take_length] at e1
      o_head ⟨tRaiseN, tAt, tTryN⟩
      exact ⟨e1, x1⟩
    ·rintro σ H1 ⟨D, rfl, eD, x1⟩
     have f1 := hf.ext x1
     o_head ⟨tRaiseN, tAt, tTryN⟩
     refine ⟨D, l.map (fun v => ex m v.1), rfl, SqL.of eD, by rw [List.length_map]; omega, fun M hM hlM => ?_⟩
     obtain ⟨u, hu, eu⟩ := List.mem_map.mp hM; dsimp only
     by_cases q1 : M ≤ 0
     ·rw [if_pos q1, f1.cs, seqOf_l, optK_some]
      intro p hp
      rw [upd_f hp f1.es, seqOf_l, optK_some]
      intro p1 hp1
      refine ⟨by decide, fun p2 hp2 => ?_⟩
      have xa := Ext.upd (o := .lst (qs.map V.ref)) hp
      have xb := xa.then (o := .lst ((l.map (·.2.2)).map V.int)) hp1
      have xc := xb.then (o := .tup [.ref p, .ref p1]) hp2
      refine hS p2 p p1 qs _ (x1.trans xc) ⟨x1.none (xb.none hp2), x1.none hp, (x1.trans xa).none hp1, fun z => by rw [← z, upd_same] at hp1; cases hp1⟩ ⟨upd_same, upd_f hp2 (upd_f hp1 upd_same), f1.pt.ext xc, upd_f hp2 upd_same⟩ fun v hv => Int.le_trans (hlM _ (List.mem_map.mpr ⟨v, hv, rfl⟩)) q1
     ·rw [if_neg q1]
      refine ⟨D, l.map (fun v => ex m v.1), rfl, SqL.of eD, by rw [List.length_map]; omega, fun M' hM' hlM' => ?_⟩
      obtain ⟨u', hu', eu'⟩ := List.mem_map.mp hM'; dsimp only
      have hp : ∃ v ∈ l, 0 < ex m v.1 := ⟨u, hu, by omega⟩
      by_cases q2 : 0 ≤ M'
      ·rw [if_pos q2]
       exact hN H1 x1 (fun v hv => Int.le_trans q2 (hlM' _ (List.mem_map.mpr ⟨v, hv, rfl⟩))) hp
      ·rw [if_neg q2]
       have hn : ∃ v ∈ l, ex m v.1 < 0 := ⟨u', hu', by omega⟩
       have hP' := cut_poly hP m num hp hn
       have hB' := rest_lnb (num := num) hB bm
       refine ⟨c, e, D, num, qs, l, m, rfl, f1.cs, f1.pt, f1.es, eD, bc, bm, by omega, l30, fun t ts H2 x2 ht2 et2 rw2 => ?_⟩
       refine ⟨t, ts, restL m num l, rfl, et2, rw2, fun v hv => ⟨hP'.pos v hv, corner_bd hP' hB' hv⟩, ?_, ?_, ?_⟩
       ·have := hP'.three
        omega
       ·have := cut_len hP m num hp hn
        omega
       ·intro f' c' e' qs' l' H3 x3 nf ff rr ld
        have x12 := x1.trans x2
        exact hR f' c' e' qs' l' H3 (x12.trans x3) ⟨x12.none nf.nf, x12.none nf.nc, x12.none nf.ne, nf.ce⟩ ff hp hn rr ld
end
end LW
namespace LW
open PySem L2 MA PyProof.Rows MC
section
variable {P : Program} {w : World} {K : PySem.W.Frag} {mg : Str → Option Value} {base : Heap}
theorem sc_cut_each : FnScope ["field", "cuts", "line", "number"] ["field", "cuts"] (defScope s_cut_each) := ⟨rfl, rfl, rfl, by decide +kernel, rfl, by decide +kernel, by decide +kernel⟩
set_option maxHeartbeats 0 in
theorem ok_cut_each {C : Cz} {f : Addr} {fd : FuncData} (F : Fun K "cut_each" "cut_each" s_cut_each f fd) (T : Txt P K mg C) (F_cut : FnB P w K mg base (CXE P w) 5 "cut" ["field", "line", "number"] (sp_cut K)) : FnOk P w K mg base (CXE P w) 6 f fd ["field", "cuts"] (sp_cuteach K) := by
 refine okN F (k := 5) sc_cut_each (fun vs H Q E h => ?_) (fun cdv A outer s H vs Q E hr h => ?_)
 ·obtain ⟨f, o, c, e, ps, L, ts, cs, P', NN, rfl, _⟩ := h
  rfl
 ·obtain ⟨f, o, c, e, ps, L, ts, cs, P', NN, rfl, h⟩ := h
  refine' ⟨_, ?main, ?rest⟩
  case main =>
   refine' pss_cons ?c1 ?c2
   case' c1 => refine' ps_for ?c3 ?c4 ?c5 ?c6 ?c7
   case c3 => exact PassesOwn.never
   case c4 => exact rfl
   case c5 => exact (pi_listK (K := K) rfl (pvF 1))
   case' c6 => refine' pg_F (n := 2) rfl ?c8
   case' c8 => refine' pgs_consF (pg_name (i := 2) sc_cut_each.nd rfl (Or.inl rfl)) ?c9
   case' c9 => exact (pgs_consF (pg_name (i := 3) sc_cut_each.nd rfl (Or.inl rfl)) pgs_nilF)
   case' c7 => refine' pss_cons ?c10 ?c11
   case' c10 => refine' ps_if ?c12 ?c13 pss_nil
   case' c12 => exact (pt_cmp (pc_isN (pvF 0)))
   case' c13 => refine' pss_one ?c14
   case' c14 => exact (ps_ret pe_non)
   case' c11 => refine' pss_one ?c15
   case' c15 => refine' ps_set (i := 0) sc_cut_each.nd rfl (Or.inl rfl) ?c16
   case' c16 => refine' pe_fn F_cut (hr.mono (by decide)) rfl passE0 ?c17
   case' c17 => refine' pa_cons (pvF 0) ?c18
   case' c18 => refine' pa_cons (pvF 2) ?c19
   case' c19 => exact (pa_cons (pvF 3) pa_nil)
   case' c2 => exact (pss_one (ps_ret (pvF 0)))
  case rest =>
   obtain ⟨hf, ho, hcs, hP0, hst, hN, h⟩ := h
   simp only [L2.start, List.map_cons, List.map_nil, List.length_cons, List.length_nil, Nat.reduceAdd, Nat.reduceSub, List.replicate_succ, List.replicate_zero, List.cons_append, List.nil_append, List.append_nil]
   o_head ⟨tRaiseN, tAt, tTryN⟩
   refine tfor_list (K := K) (a := o) (xs := ts.map V.ref) (fun R h => by o_head ⟨tRaiseN, tAt, tTryN⟩; exact h) (fun k σ H' => ∃ (va : V) (o2 o3 : Option V), σ = [some va, some (.ref o), o2, o3] ∧ Ext H H' ∧ ((va = .non ∧ NN) ∨ ∃ (f' c' e' : Addr) (ps' : List Addr) (L' : List Vx), va = .ref f' ∧ (NewF H f' c' e' ∨ (f' = f ∧ c' = c ∧ e' = e)) ∧ FldAt H' f' c' e' ps' L' ∧ P' k L')) ⟨_, _, _, rfl, .refl _, .inr ⟨f, c, e, ps, L, rfl, .inr ⟨rfl, rfl, rfl⟩, hf, hP0⟩⟩ ?_ ?_ ?_
   ·rintro k σ H1 _ ⟨va, o2, o3, rfl, x1, _⟩
    exact SqL.of (x1 _ _ ho)
   ·rintro k w1 σ H1 hk ⟨va, o2, o3, rfl, x1, hv⟩
    obtain ⟨t, ht, rfl⟩ := refs_get hk
    have li := (List.getElem?_eq_some_iff.mp ht).1
    obtain ⟨w', hw⟩ : ∃ z, cs[k]? = some z := ⟨_, List.getElem?_eq_getElem (by rw [← hcs.1]; exact li)⟩
    obtain ⟨q, et, eq⟩ := hcs.2 k t w' ht hw
    o_head ⟨tRaiseN, tAt, tTryN, gSeqF, gCons, gNil, x1 _ _ et⟩
    rcases hv with ⟨rfl, nn⟩ | ⟨f', c', e', ps', L', rfl, nf1, hf1, hP1⟩
    ·o_head ⟨tRaiseN, tAt, tTryN⟩
     exact hN nn H1 x1
    ·obtain ⟨s1, s2, s3, s4, s5, s6, s7⟩ := hst k w' L' hw hP1
     o_head ⟨tRaiseN, tAt, tTryN, sp_cut⟩
     refine ⟨c', e', ps', L', hf1, w'.1, x1 _ _ eq, s1, s2, s3, s4, ?_, ?_, ?_⟩
     ·intro H2 x2 q1 q2
      exact ⟨x1.trans x2, s7 q1 q2⟩
     ·intro f2 c2 e2 ps2 H2 x2 nf2 hf2 q1
      exact ⟨x1.trans x2, c2, e2, .inl ⟨x1.none nf2.nf, x1.none nf2.nc, x1.none nf2.ne, nf2.ce⟩, ps2, L', hf2, s5 q1⟩
     ·intro f2 c2 e2 ps2 L2 H2 x2 nf2 hf2 q1 q2 rt ld
      exact ⟨x1.trans x2, c2, e2, .inl ⟨x1.none nf2.nf, x1.none nf2.nc, x1.none nf2.ne, nf2.ce⟩, ps2, L2, hf2, s6 L2 q1 q2 rt ld⟩
   ·rintro σ H1 ⟨va, o2, o3, rfl, x1, hv⟩
    o_head ⟨tRaiseN, tAt, tTryN⟩
    rcases hv with ⟨rfl, nn⟩ | ⟨f', c', e', ps', L', rfl, nf1, hf1, hP1⟩
    ·exact hN nn H1 x1
    ·rw [List.length_map, hcs.1] at hP1
     exact h f' c' e' ps' L' H1 x1 nf1 hf1 hP1
end
end LW
namespace LW
open PySem L2 MA PyProof.Rows MC
section
variable {P : Program} {w : World} {K : PySem.W.Frag} {mg : Str → Option Value} {base : Heap}
theorem sc_area : FnScope ["field", "corners", "top", "bottom", "one", "other", "part", "scale"] ["field"] (defScope s_area) := ⟨rfl, rfl, rfl, by decide +kernel, rfl, by decide +kernel, by decide +kernel⟩
set_option maxHeartbeats 0 in
theorem ok_area {C : Cz} {f : Addr} {fd : FuncData} (F : Fun K "area" "area" s_area f fd) (T : Txt P K mg C) (F_fraction_of : FnB P w K mg base (CXE P w) 2 "fraction_of" ["top", "bottom"] sp_fraction_of) : FnOk P w K mg base (CXE P w) 3 f fd ["field"] (sp_area K) := by
 refine okN F (k := 2) sc_area (fun vs H Q E h => ?_) (fun cdv A outer s H vs Q E hr h => ?_)
 ·obtain ⟨f, c, e, qs, cs, n, m, rfl, _⟩ := h
  rfl
 ·obtain ⟨f, c, e, qs, cs, n, m, rfl, h⟩ := h
  refine' ⟨_, ?main, ?rest⟩
  case main =>
   refine' pss_cons ?c1 ?c2
   case' c1 => refine' ps_set (i := 1) sc_area.nd rfl (Or.inl rfl) ?c3
   case' c3 => exact (pe_ix ix_F (pvF 0) pe_int (fun _ _ => rfl))
   case' c2 => refine' pss_cons ?c4 ?c5
   case' c4 => exact (ps_set (i := 2) sc_area.nd rfl (Or.inl rfl) pe_int)
   case' c5 => refine' pss_cons ?c6 ?c7
   case' c6 => exact (ps_set (i := 3) sc_area.nd rfl (Or.inl rfl) pe_int)
   case' c7 => refine' pss_cons ?c8 ?c9
   case' c8 => refine' ps_for ?c10 ?c11 ?c12 ?c13 ?c14
   case c10 => exact PassesOwn.never
   case c11 => exact rfl
   case' c12 => refine' pi_zip (K := K) rfl rfl T.b_zip ?c15
   case' c15 => refine' pa_cons ?c16 ?c17
   case c16 => exact (pvF 1)
   case' c17 => refine' pa_cons ?c18 ?c19
   case' c18 => refine' pe_op op_catF ?c20 ?c21
   case' c20 => refine' pe_slice sl_F (pvF 1) ?c22 po_none
   case' c22 => exact (po_some pe_int)
   case' c21 => refine' pe_slice sl_F (pvF 1) po_none ?c23
   case' c23 => exact (po_some pe_int)
   case c19 => exact pa_nil
   case' c13 => refine' pg_F (n := 2) rfl ?c24
   case' c24 => refine' pgs_consF (pg_name (i := 4) sc_area.nd rfl (Or.inl rfl)) ?c25
   case' c25 => exact (pgs_consF (pg_name (i := 5) sc_area.nd rfl (Or.inl rfl)) pgs_nilF)
   case' c14 => refine' pss_cons ?c26 ?c27
   case' c26 => refine' ps_set (i := 6) ?c28 ?c29 ?c30 ?c31
   case c28 => exact sc_area.nd
   case c29 => exact rfl
   case c30 => exact (Or.inl rfl)
   case' c31 => refine' pe_op ?c32 ?c33 ?c34
   case c32 => exact (OpR.f0 op_sub)
   case' c33 => refine' pe_op (OpR.f op_mulA) ?c35 ?c36
   case' c35 => exact (pe_ix ix_F (pvF 4) pe_int (fun _ _ => rfl))
   case' c36 => exact (pe_ix ix_F (pvF 5) pe_int (fun _ _ => rfl))
   case' c34 => refine' pe_op (OpR.f op_mulA) ?c37 ?c38
   case' c37 => exact (pe_ix ix_F (pvF 5) pe_int (fun _ _ => rfl))
   case' c38 => exact (pe_ix ix_F (pvF 4) pe_int (fun _ _ => rfl))
   case' c27 => refine' pss_cons ?c39 ?c40
   case' c39 => refine' ps_set (i := 7) sc_area.nd rfl (Or.inl rfl) ?c41
   case' c41 => refine' pe_op (OpR.f op_mulA) ?c42 ?c43
   case' c42 => exact (pe_ix ix_F (pvF 4) pe_int (fun _ _ => rfl))
   case' c43 => exact (pe_ix ix_F (pvF 5) pe_int (fun _ _ => rfl))
   case' c40 => refine' pss_one ?c44
   case' c44 => refine' ps_asg ?c45 ?c46
   case' c45 => refine' pe_fn F_fraction_of (hr.mono (by decide)) rfl passE0 ?c47
   case' c47 => refine' pa_cons ?c48 ?c49
   case' c48 => exact (pe_op (OpR.f0 op_add) (pe_op (OpR.f op_mulA) (pvF 2) (pvF 7)) (pe_op (OpR.f op_mulA) (pvF 6) (pvF 3)))
   case' c49 => exact (pa_cons (pe_op (OpR.f op_mulA) (pvF 3) (pvF 7)) pa_nil)
   case' c46 => refine' pg_F (n := 2) rfl ?c50
   case' c50 => refine' pgs_consF (pg_name (i := 2) sc_area.nd rfl (Or.inl rfl)) ?c51
   case' c51 => exact (pgs_consF (pg_name (i := 3) sc_area.nd rfl (Or.inl rfl)) pgs_nilF)
   case' c9 => refine' pss_one ?c52
   case' c52 => refine' ps_ret ?c53
   case' c53 => refine' pe_fn F_fraction_of (hr.mono (by decide)) rfl passE0 ?c54
   case' c54 => refine' pa_cons (pvF 2) ?c55
   case' c55 => refine' pa_cons ?c56 pa_nil
   case' c56 => exact (pe_op (OpR.f op_mulA) pe_int (pvF 3))
  case rest =>
   obtain ⟨hf, hc, hcs, hz, hsz, hm5, hl0, hl1, h⟩ := h
   simp only [L2.start, List.map_cons, List.map_nil, List.length_cons, List.length_nil, Nat.reduceAdd, Nat.reduceSub, List.replicate_succ, List.replicate_zero, List.cons_append, List.nil_append, List.append_nil]
   o_head ⟨tRaiseN, tAt, tTryN, hf⟩
   have rq : (rot qs).length = (rot cs).length := by rw [MC.rot_length, MC.rot_length, hcs.1]
   have hrot : ∀ (i : Nat) (q : Addr) (z : P3), (rot qs)[i]? = some q → (rot cs)[i]? = some z → H q = some (.tup [.int z.1, .int z.2.1, .int z.2.2]) := by
    intro i q z h1 h2
    unfold rot at h1 h2
    by_cases hi : i < (qs.drop 1).length
    ·have hi2 : i < (cs.drop 1).length := by
      rw [List.length_drop] at hi ⊢
      rw [← hcs.1]
      exact hi
     rw [List.getElem?_append_left hi, List.getElem?_drop] at h1
     rw [List.getElem?_append_left hi2, List.getElem?_drop] at h2
     exact hcs.2 _ q z h1 h2
    ·have hi2 : ¬ i < (cs.drop 1).length := by
      rw [List.length_drop] at hi ⊢
      rw [← hcs.1]
      exact hi
     rw [List.getElem?_append_right (by omega)] at h1
     rw [List.getElem?_append_right (by omega)] at h2
     have e : (qs.drop 1).length = (cs.drop 1).length := by rw [List.length_drop, List.length_drop, hcs.1]
     rw [e] at h1
     generalize i - (cs.drop 1).length = j at h1 h2
     have hj : j < 1 := by
      have := (List.getElem?_eq_some_iff.mp h1).1
      rw [List.length_take] at this
      omega
     obtain rfl : j = 0 := by omega
     rw [List.getElem?_take_of_lt (by decide)] at h1 h2
     exact hcs.2 0 q z h1 h2
   have hzr : ∀ z ∈ rot cs, 0 < z.2.2 ∧ B3 n z := by
    intro z hz'
    unfold rot at hz'
    rcases List.mem_append.mp hz' with q | q
    ·exact hz z (List.mem_of_mem_drop q)
    ·exact hz z (List.mem_of_mem_take q)
   refine tfor_zip (fun a' b' H1 => a' = c ∧ Ext H H1 ∧ H1 b' = some (.lst ((rot qs).map V.ref))) ?_ ?_
   ·intro R hR
    o_head ⟨tRaiseN, tAt, tTryN, hc⟩
    rw [cut_tail]
    refine fun p1 h1 => ?_
    have e1 := upd_f (o := .lst ((qs.map V.ref).drop 1)) h1 hc
    o_head ⟨tRaiseN, tAt, tTryN, e1⟩
    rw [cut_head]
    refine fun p2 h2 => ?_
    have e2 := upd_f (o := .lst ((qs.map V.ref).take 1)) h2 (upd_same (H := H) (a := p1) (o := .lst ((qs.map V.ref).drop 1)))
    o_head ⟨tRaiseN, tAt, tTryN, e2⟩
    refine ⟨?_, fun p3 h3 => hR _ _ _ ⟨rfl, ((Ext.upd h1).then h2).then h3, ?_⟩⟩
    ·rw [List.length_drop, List.length_take, List.length_map, hcs.1]
     omega
    ·rw [upd_same, ← MC.rot_map]
     rfl
   ·rintro _ b' H1 ⟨rfl, x1, eb⟩
    refine ⟨qs.map V.ref, (rot qs).map V.ref, fun i σ H' => ∃ (t b : Int) (o4 o5 o6 o7 : Option V), σ = [some (.ref f), some (.ref _), some (.int t), some (.int b), o4, o5, o6, o7] ∧ Ext H1 H' ∧ IsFr (arSum ((cs.zip (rot cs)).take i)).1 (arSum ((cs.zip (rot cs)).take i)).2 t b ∧ (arSum ((cs.zip (rot cs)).take i)).2 ≠ 0 ∧ Bd (i * (2 * n + 2) + 1) t ∧ Bd (i * (2 * n + 2) + 1) b, by rw [List.length_map, List.length_map, MC.rot_length], ⟨0, 1, _, _, _, _, rfl, .refl _, ?_, ?_, ?_, ?_⟩, ?_, ?_, ?_⟩
    ·show IsFr 0 1 0 1
     exact ⟨by decide, by decide, by decide, by decide, by decide⟩
    ·show (1 : Int) ≠ 0
     decide
    ·show (0 : Int).natAbs < 2 ^ (0 * (2 * n + 2) + 1)
     rw [Nat.zero_mul]
     decide
    ·show (1 : Int).natAbs < 2 ^ (0 * (2 * n + 2) + 1)
     rw [Nat.zero_mul]
     decide
    ·rintro i σ H' _ ⟨t, b, o4, o5, o6, o7, rfl, x', _⟩
     exact ⟨SqL.of (x' _ _ (x1 _ _ hc)), SqL.of (x' _ _ eb)⟩
    ·rintro i v1 v2 t0 σ H' hv1 hv2 ⟨t, b, o4, o5, o6, o7, rfl, x', hfr, hD, bt, bb⟩ ht0
     obtain ⟨q, hq, rfl⟩ : ∃ q, qs[i]? = some q ∧ v1 = .ref q := by
      rw [List.getElem?_map] at hv1
      cases e : qs[i]? with
      | none => rw [e] at hv1; cases hv1
      | some q => rw [e] at hv1; exact ⟨q, rfl, (Option.some.inj hv1).symm⟩
     obtain ⟨q', hq', rfl⟩ : ∃ q, (rot qs)[i]? = some q ∧ v2 = .ref q := by
      rw [List.getElem?_map] at hv2
      cases e : (rot qs)[i]? with
      | none => rw [e] at hv2; cases hv2
      | some q => rw [e] at hv2; exact ⟨q, rfl, (Option.some.inj hv2).symm⟩
     have li := (List.getElem?_eq_some_iff.mp hq).1
     have lr := (List.getElem?_eq_some_iff.mp hq').1
     obtain ⟨⟨z1, z2, z3⟩, hz1⟩ : ∃ z, cs[i]? = some z := ⟨_, List.getElem?_eq_getElem (by rw [← hcs.1]; exact li)⟩
     obtain ⟨⟨w1, w2, w3⟩, hw1⟩ : ∃ z, (rot cs)[i]? = some z := ⟨_, List.getElem?_eq_getElem (by rw [← rq]; exact lr)⟩
     obtain ⟨pz, bz1, bz2, bz3⟩ := hz _ (List.mem_of_getElem? hz1)
     obtain ⟨pw, bw1, bw2, bw3⟩ := hzr _ (List.mem_of_getElem? hw1)
     dsimp only at pz bz1 bz2 bz3 pw bw1 bw2 bw3
     have eq1 := upd_f (o := .tup [.ref q, .ref q']) ht0 (x' _ _ (x1 _ _ (hcs.2 i q _ hq hz1)))
     have eq2 := upd_f (o := .tup [.ref q, .ref q']) ht0 (x' _ _ (x1 _ _ (hrot i q' _ hq' hw1)))
     dsimp only at eq1 eq2
     have xt : Ext H1 (upd H' t0 (.tup [.ref q, .ref q'])) := x'.then ht0
     have et := upd_same (H := H') (a := t0) (o := .tup [.ref q, .ref q'])
     generalize upd H' t0 (.tup [.ref q, .ref q']) = H2 at eq1 eq2 xt et ⊢
     have hi : i < cs.length := by rw [← hcs.1]; exact li
     have hin : i * (2 * n + 2) ≤ cs.length * (2 * n + 2) := Nat.mul_le_mul_right _ (by omega)
     have hsz' : cs.length * (2 * n + 2) + 2 * (2 * n + 2) + 100 ≤ m := by rw [Nat.add_mul] at hsz; exact hsz
     generalize hE : i * (2 * n + 2) = Ei at bt bb hin ⊢
     generalize cs.length * (2 * n + 2) = Em at hin hsz'
     o_head ⟨tRaiseN, tAt, tTryN, gSeqF, gCons, gNil, et, eq1, eq2, sp_fraction_of⟩
     have bs : Bd (2 * n) (z3 * w3) := (bz3.mul bw3).mono (by omega)
     have br : Bd (2 * n + 1) (z1 * w2 - w1 * z2) := LW.Bd.subm ((bz1.mul bw2).mono (by omega)) ((bw1.mul bz2).mono (by omega))
     have sp : 0 < z3 * w3 := Int.mul_pos pz pw
     have hb := hfr.pos
     refine ⟨.of bz1 bw2 (by omega) (by omega), .of bw1 bz2 (by omega) (by omega), .of bz3 bw3 (by omega) (by omega), .of bt bs (by omega) (by omega), .of br bb (by omega) (by omega), .of bb bs (by omega) (by omega), Int.mul_ne_zero (by omega) (by omega), (bb.mul bs).mono (by omega), fun p a c hp' hk => ⟨xt.then hp', ?_⟩⟩
     have et2 : (cs.zip (rot cs)).take (i + 1) = (cs.zip (rot cs)).take i ++ [((z1, z2, z3), (w1, w2, w3))] := by
      rw [List.take_succ]
      have : (cs.zip (rot cs))[i]? = some ((z1, z2, z3), (w1, w2, w3)) := by
       rw [List.getElem?_zip_eq_some]
       exact ⟨hz1, hw1⟩
      rw [this]
      rfl
     have e3 : (i + 1) * (2 * n + 2) + 1 = Ei + 2 * n + 3 := by rw [Nat.succ_mul, hE]; omega
     rw [et2, arSum_snoc, e3]
     refine ⟨isFr_next hfr (Int.ne_of_gt sp) hD hk, Int.mul_ne_zero hD (Int.ne_of_gt sp), ?_, ?_⟩
     ·exact Nat.lt_of_le_of_lt hk.la (LW.Bd.addm ((bt.mul bs).mono (n := Ei + 2 * n + 2) (by omega)) ((br.mul bb).mono (by omega)))
     ·exact Nat.lt_of_le_of_lt hk.lc ((bb.mul bs).mono (by omega))
    ·rintro σ H' ⟨t, b, o4, o5, o6, o7, rfl, x', hfr, hD, bt, bb⟩
     have el : (cs.zip (rot cs)).take (qs.map V.ref).length = cs.zip (rot cs) := by
      rw [List.length_map, hcs.1]
      apply List.take_of_length_le
      rw [List.length_zip, MC.rot_length]
      omega
     rw [el] at hfr hD
     rw [List.length_map, hcs.1] at bt bb
     have hsz' : cs.length * (2 * n + 2) + 2 * (2 * n + 2) + 100 ≤ m := by rw [Nat.add_mul] at hsz; exact hsz
     generalize cs.length * (2 * n + 2) = Em at hsz' bt bb
     have hb := hfr.pos
     have two : Bd 2 2 := Bd.of_le (n := 2) 2 (by decide) (by decide) (by decide)
     o_head ⟨tRaiseN, tAt, tTryN, sp_fraction_of⟩
     refine ⟨.left (by decide) (by decide), by omega, (two.mul bb).mono (by omega), fun p a c hp' hk => h p a c _ ((x1.trans x').then hp') (LW.Ext.none (x1.trans x') hp') upd_same (Nat.lt_of_le_of_lt hk.la (bt.mono (by omega))) (Nat.lt_of_le_of_lt hk.lc ((two.mul bb).mono (by omega))) ?_⟩
     have n2 : 2 * (arSum (cs.zip (rot cs))).2 ≠ 0 := by omega
     have k2 := isFr_of (x := (arSum (cs.zip (rot cs))).1) n2
     have e := hfr.ex
     obtain ⟨e1, e2⟩ := isFr_same hk k2 (by omega) n2 (by grind)
     rw [← e1, ← e2] at k2
     exact k2
end
end LW
namespace LW
open PySem L2 MA PyProof.Rows MC
section
variable {P : Program} {w : World} {K : PySem.W.Frag} {mg : Str → Option Value} {base : Heap}
theorem sc_cut_off : FnScope ["field", "spots", "number", "others"] ["field", "spots", "number", "others"] (defScope s_cut_off) := ⟨rfl, rfl, rfl, by decide +kernel, rfl, by decide +kernel, by decide +kernel⟩
set_option maxHeartbeats 0 in
theorem ok_cut_off {C : Cz} {f : Addr} {fd : FuncData} (F : Fun K "cut_off" "cut_off" s_cut_off f fd) (T : Txt P K mg C) (F_between : FnB P w K mg base (CXE P w) 3 "between" ["one", "other"] sp_between) (F_cut_each : FnB P w K mg base (CXE P w) 6 "cut_each" ["field", "cuts"] (sp_cuteach K)) : FnOk P w K mg base (CXE P w) 7 f fd ["field", "spots", "number", "others"] (sp_cutoff K) := by
 refine okN F (k := 6) sc_cut_off (fun vs H Q E h => ?_) (fun cdv A outer s H vs Q E hr h => ?_)
 ·obtain ⟨f, l, i, o, b, x, y, u, v, qs, rs, c, e, ps, L, r, js, rfl, _⟩ := h
  rfl
 ·obtain ⟨f, l, i, o, b, x, y, u, v, qs, rs, c, e, ps, L, r, js, rfl, h⟩ := h
  refine' ⟨_, ?main, ?rest⟩
  case main =>
   refine' pss_one ?c1
   case' c1 => refine' ps_ret ?c2
   case' c2 => refine' pe_fn ?c3 ?c4 ?c5 ?c6 ?c7
   case c3 => exact F_cut_each
   case c4 => exact (hr.mono (by decide))
   case c5 => exact rfl
   case c6 => exact passE0
   case' c7 => refine' pa_cons ?c8 ?c9
   case c8 => exact (pvF 0)
   case' c9 => refine' pa_cons ?c10 ?c11
   case' c10 => refine' pe_lc (CScope.of_ok (dsc := defScope s_cut_off) (N0 := ["field", "spots", "number", "others"]) (N := ["other", "spots", "number"]) (k := 1) (js := [1, 2]) rfl rfl (by decide +kernel)) rfl (pi_listK (K := K) rfl (pvF 3)) ?c12 ?c13 ?c14
   case' c12 => intro _ _ _ _ _ _; exact (pg_name (i := 0) (by show List.Nodup (["other", "spots", "number"] : List Str); decide +kernel) rfl (Or.inl rfl))
   case' c13 => intro _ _ _ _ _ _; exact pifs_nil
   case' c14 => intro _ _ _ _ _ _; refine' pe_tup ?c15
   case' c15 => refine' pa_cons ?c16 ?c17
   case' c16 => refine' pe_fn F_between (hr.mono (by decide)) rfl passE0 ?c18
   case' c18 => refine' pa_cons (pe_ix ix_F (pvF 1) (pvF 2) (fun _ _ => rfl)) ?c19
   case' c19 => exact (pa_cons (pe_ix ix_F (pvF 1) (pvF 0) (fun _ _ => rfl)) pa_nil)
   case' c17 => exact (pa_cons (pvF 0) pa_nil)
   case c11 => exact pa_nil
  case rest =>
   obtain ⟨ok, hf, hL, hri, ho, nd, l12, hjs, h⟩ := h
   have lq : qs.length = rs.length := ok.at_.1
   obtain ⟨qi, hqi⟩ : ∃ q, qs[i]? = some q := ⟨_, List.getElem?_eq_getElem (by rw [lq]; exact (List.getElem?_eq_some_iff.mp hri).1)⟩
   have eqi := ok.at_.2 i qi r hqi hri
   have ai : atI (qs.map V.ref) (i : Int) = some (.ref qi) := atI_nat (by rw [List.getElem?_map, hqi]; rfl)
   have br := ok.b2 (List.mem_of_getElem? hri)
   have lj : (JsV js).length = js.length := by unfold JsV; rw [List.length_map]
   simp only [L2.start, List.map_cons, List.map_nil, List.length_cons, List.length_nil, Nat.reduceAdd, Nat.reduceSub, List.replicate_succ, List.replicate_zero, List.cons_append, List.nil_append, List.append_nil]
   o_head ⟨tRaiseN, tAt, tTryN⟩
   refine tlc_list (K := K) (a := o) (xs := JsV js) (fun R h => by o_head ⟨tRaiseN, tAt, tTryN⟩; exact h) (SqL.of ho) (by omega) (fun D k ys H' => ∃ ts : List Addr, ys = ts.map V.ref ∧ RwAt H' ts ((js.take k).map (LnAt rs r)) ∧ H' D = some (.lst ys) ∧ Ext H H') ?_ ?_ ?_ ?_
   ·intro D hD
    exact ⟨[], rfl, ⟨rfl, fun i t v a => by simp at a⟩, upd_same, .upd hD⟩
   ·rintro D k ys H1 _ ⟨ts, rfl, r1, e1, x1⟩
    refine ⟨e1, ?_, SqL.of (x1 _ _ ho)⟩
    rw [List.length_map, r1.1, List.length_map, List.length_take]
    omega
   ·rintro D k w1 ys H1 hD hk ⟨ts, rfl, r1, e1, x1⟩
    obtain ⟨j, hj, rfl⟩ := JsV_get hk
    obtain ⟨jl, ji⟩ := hjs j (List.mem_of_getElem? hj)
    obtain ⟨s, hs⟩ : ∃ s, rs[j]? = some s := ⟨_, List.getElem?_eq_getElem jl⟩
    obtain ⟨qj, hqj⟩ : ∃ q, qs[j]? = some q := ⟨_, List.getElem?_eq_getElem (by rw [lq]; exact jl)⟩
    have eqj := ok.at_.2 j qj s hqj hs
    have ok1 := ok.ext x1
    have ne := nodup_ne ok.nd hri hs ji
    have bs := ok.b2 (List.mem_of_getElem? hs)
    have aj : atI (qs.map V.ref) (j : Int) = some (.ref qj) := atI_nat (by rw [List.getElem?_map, hqj]; rfl)
    o_head ⟨tRaiseN, tAt, tTryN, ok1.sp, ai, aj, sp_between, x1 _ _ eqi, x1 _ _ eqj, BtwOk⟩
    refine ⟨⟨br.1.mono (by decide), br.2.mono (by decide)⟩, ⟨bs.1.mono (by decide), bs.2.mono (by decide)⟩, ne, fun t ht => ⟨by decide, fun t2 ht2 => ?_⟩⟩
    have e1' := upd_f (o := .tup [.ref t, .int (j : Int)]) ht2 (upd_f (o := .tup [.int (lnB r s).1, .int (lnB r s).2.1, .int (lnB r s).2.2]) ht e1)
    refine ⟨e1', ts ++ [t2], by rw [map_snoc], ?_, ((x1.then ht).then ht2).set hD⟩
    rw [List.take_succ, hj, List.map_append]
    refine RwAt.setL (xs := ts.map V.ref) ?_ e1'
    refine RwAt.snoc ((r1.ext (Ext.upd ht)).ext (Ext.upd ht2)) (q := t) ?_ ?_
    ·rw [LnAt_of hs]
     exact upd_same
    ·rw [LnAt_of hs]
     exact upd_f ht2 upd_same
   ·rintro D ys H1 hD ⟨ts, rfl, r1, e1, x1⟩
    rw [lj, List.take_length] at r1
    have ok1 := ok.ext x1
    refine ⟨f, D, c, e, ps, L, ts, js.map (LnAt rs r), fun k l' => LandOk x y u v rs r (js.take k) l' ∧ Chain rs r (js.take k) L l', False, rfl, hf.ext x1, e1, r1, ⟨hL, rfl⟩, ?_, fun z => z.elim, fun f' c' e' ps' L' H' x' nf hf' hLc => ?_⟩
    ·rintro k w1 L1 hk ⟨hL1, ch1⟩
     rw [List.getElem?_map] at hk
     obtain ⟨j, hj, rfl⟩ : ∃ j, js[k]? = some j ∧ w1 = LnAt rs r j := by
      cases e : js[k]? with
      | none => rw [e] at hk; cases hk
      | some q => rw [e] at hk; exact ⟨q, rfl, (Option.some.inj hk).symm⟩
     obtain ⟨jl, ji⟩ := hjs j (List.mem_of_getElem? hj)
     obtain ⟨s, hs⟩ : ∃ s, rs[j]? = some s := ⟨_, List.getElem?_eq_getElem jl⟩
     rw [LnAt_of hs]
     dsimp only
     have ne := nodup_ne ok.nd hri hs ji
     have bm : B3 300 (lnB r s) := by
      have a1 := ok.ins r (List.mem_of_getElem? hri)
      have a2 := ok.ins s (List.mem_of_getElem? hs)
      have z := ok.sz
      have b := lnB_bd (n := 110) (bd29 (n := r.1) (by omega) (by omega) 110) (bd29 (n := r.2) (by omega) (by omega) 110) (bd29 (n := s.1) (by omega) (by omega) 110) (bd29 (n := s.2) (by omega) (by omega) 110) ne
      exact ⟨b.1.mono (by decide), b.2.1.mono (by decide), b.2.2.mono (by decide)⟩
     have lL := hL1.len
     rw [List.length_take] at lL
     have own := land_own hL1 ok.xu ok.yv (ok.ins r (List.mem_of_getElem? hri)) fun j' hj' z => nodup_ne ok.nd hri z (hjs j' (List.mem_of_mem_take hj')).2 rfl
     have tk : js.take (k + 1) = js.take k ++ [j] := by
      rw [List.take_succ, hj]
      rfl
     refine ⟨hL1.poly, hL1.lnb, bm, by omega, fun q1 => ?_, fun l' q1 q2 rt ld => ?_, fun q1 _ => ?_⟩
     ·rw [tk]
      exact ⟨land_same hL1 hs q1, chain_snoc hs ch1 (.inl ⟨rfl, q1⟩)⟩
     ·rw [tk]
      exact ⟨land_cut hL1 hs (not_take nd hj) bm q1 q2 rt ld, chain_snoc hs ch1 (.inr ⟨q1, q2, rt, ld⟩)⟩
     ·obtain ⟨w, hw, lt⟩ := some_behind hL1.poly own (own_lt ne)
      have := q1 w hw
      omega
    ·rw [List.length_map, List.take_length] at hLc
     obtain ⟨hL', ch'⟩ := hLc
     refine h f' c' e' ps' L' H' (x1.trans x') ?_ hf' hL' ch'
     rcases nf with n | n
     ·exact .inl ⟨x1.none n.nf, x1.none n.nc, x1.none n.ne, n.ce⟩
     ·exact .inr n
end
end LW
namespace LW
open PySem L2 MA PyProof.Rows MC
section
variable {P : Program} {w : World} {K : PySem.W.Frag} {mg : Str → Option Value} {base : Heap}
theorem sc_land_within : FnScope ["box", "spots", "number"] ["box", "spots", "number"] (defScope s_land_within) := ⟨rfl, rfl, rfl, by decide +kernel, rfl, by decide +kernel, by decide +kernel⟩
set_option maxHeartbeats 0 in
theorem ok_land_within {C : Cz} {f : Addr} {fd : FuncData} (F : Fun K "land_within" "land_within" s_land_within f fd) (T : Txt P K mg C) (F_others_of : FnB P w K mg base (CXE P w) 1 "others_of" ["spots", "number"] sp_others) (F_box_field : FnB P w K mg base (CXE P w) 2 "box_field" ["box"] sp_box_field) (F_cut_off : FnB P w K mg base (CXE P w) 7 "cut_off" ["field", "spots", "number", "others"] (sp_cutoff K)) : FnOk P w K mg base (CXE P w) 8 f fd ["box", "spots", "number"] (sp_landw K) := by
 refine okN F (k := 7) sc_land_within (fun vs H Q E h => ?_) (fun cdv A outer s H vs Q E hr h => ?_)
 ·obtain ⟨b, l, i, x, y, u, v, qs, rs, r, rfl, _⟩ := h
  rfl
 ·obtain ⟨b, l, i, x, y, u, v, qs, rs, r, rfl, h⟩ := h
  refine' ⟨_, ?main, ?rest⟩
  case main =>
   refine' pss_one ?c1
   case' c1 => refine' ps_ret ?c2
   case' c2 => refine' pe_fn ?c3 ?c4 ?c5 ?c6 ?c7
   case c3 => exact F_cut_off
   case c4 => exact (hr.mono (by decide))
   case c5 => exact rfl
   case c6 => exact passE0
   case' c7 => refine' pa_cons ?c8 ?c9
   case' c8 => refine' pe_fn F_box_field (hr.mono (by decide)) rfl passE0 ?c10
   case' c10 => exact (pa_cons (pvF 0) pa_nil)
   case' c9 => refine' pa_cons (pvF 1) ?c11
   case' c11 => refine' pa_cons (pvF 2) ?c12
   case' c12 => refine' pa_cons ?c13 pa_nil
   case' c13 => refine' pe_fn F_others_of (hr.mono (by decide)) rfl passE0 ?c14
   case' c14 => refine' pa_cons (pvF 1) ?c15
   case' c15 => exact (pa_cons (pvF 2) pa_nil)
  case rest =>
   obtain ⟨ok, hri, h⟩ := h
   have lq : (qs.map V.ref).length = rs.length := by rw [List.length_map]; exact ok.at_.1
   have n12 := ok.n12
   have z := ok.sz
   have xu := ok.xu
   have yv := ok.yv
   simp only [L2.start, List.map_cons, List.map_nil, List.length_cons, List.length_nil, Nat.reduceAdd, Nat.reduceSub, List.replicate_succ, List.replicate_zero, List.cons_append, List.nil_append, List.append_nil]
   o_head ⟨tRaiseN, tAt, tTryN, sp_box_field⟩
   refine ⟨x, y, u, v, ok.bx, xu, yv, fun f c e ps H2 x2 nf hf => ?_⟩
   have ok2 := ok.ext x2
   refine ⟨l, i, qs.map V.ref, rfl, ok2.sp, by rw [lq]; omega, fun D H3 x3 hD eD => ?_⟩
   rw [lq] at eD
   have bx : Bd 300 x ∧ Bd 300 y ∧ Bd 300 u ∧ Bd 300 v := ⟨bd29 (by omega) (by omega) 300, bd29 (by omega) (by omega) 300, bd29 (by omega) (by omega) 300, bd29 (by omega) (by omega) 300⟩
   refine ⟨f, l, i, D, b, x, y, u, v, qs, rs, c, e, ps, boxL x y u v, r, othersL rs.length i, rfl, ok2.ext x3, hf.ext x3, land_box rs r xu yv bx, hri, eD, othersL_nodup _ _, Nat.le_trans (othersL_len _ _) n12, fun j hj => mem_othersL.mp hj, fun f' c' e' ps' L' H4 x4 nf4 hf4 hL4 ch4 => ?_⟩
   have x23 := x2.trans x3
   refine h f' c' e' ps' L' H4 (x23.trans x4) ?_ hf4 hL4 ch4
   rcases nf4 with n | ⟨rfl, rfl, rfl⟩
   ·exact ⟨x23.none n.nf, x23.none n.nc, x23.none n.ne, n.ce⟩
   ·exact nf
end
end LW
namespace LW
open PySem L2 MA PyProof.Rows MC
section
variable {P : Program} {w : World} {K : PySem.W.Frag} {mg : Str → Option Value} {base : Heap}
theorem sc_takes : FnScope ["box", "spots", "spot", "told", "number", "other", "whole", "left"] ["box", "spots", "spot"] (defScope s_takes) := ⟨rfl, rfl, rfl, by decide +kernel, rfl, by decide +kernel, by decide +kernel⟩
set_option maxHeartbeats 0 in
theorem ok_takes {C : Cz} {f : Addr} {fd : FuncData} (F : Fun K "takes" "takes" s_takes f fd) (T : Txt P K mg C) (F_area : FnB P w K mg base (CXE P w) 3 "area" ["field"] (sp_areaP K)) (F_difference : FnB P w K mg base (CXE P w) 3 "difference" ["one", "other"] sp_difference) (F_between : FnB P w K mg base (CXE P w) 3 "between" ["one", "other"] sp_between) (F_cut : FnB P w K mg base (CXE P w) 5 "cut" ["field", "line", "number"] (sp_cut K)) (F_land_within : FnB P w K mg base (CXE P w) 8 "land_within" ["box", "spots", "number"] (sp_landw K)) (F_check_box_and_spots : FnB P w K mg base (CXE P w) 3 "check_box_and_spots" ["box", "spots"] (sp_cbsE K C)) : FnOk P w K mg base (CXE P w) 9 f fd ["box", "spots", "spot"] (sp_takesE K C) := by
 refine okE F (k := 8) sc_takes (fun vs H Q E h => ?_) (fun cdv A outer s H vs Q E hr h => ?_)
 ·obtain ⟨b, l, t, x, y, u, v, qs, rs, s, rfl, _⟩ := h
  rfl
 ·obtain ⟨b, l, t, x, y, u, v, qs, rs, s, rfl, h⟩ := h
  refine' ⟨_, ?main, ?rest⟩
  case main =>
   refine' pss_cut ?c1 ?c2
   case' c1 => refine' ps_expr ?c3
   case' c3 => refine' pe_fn F_check_box_and_spots (hr.mono (by decide)) rfl passE ?c4
   case' c4 => refine' pa_cons (pvF 0) ?c5
   case' c5 => exact (pa_cons (pvF 1) pa_nil)
   case' c2 => refine' pss_cut ?c6 ?c7
   case' c6 => refine' ps_expr ?c8
   case' c8 => refine' pe_fn F_check_box_and_spots (hr.mono (by decide)) rfl passE ?c9
   case' c9 => refine' pa_cons (pvF 0) ?c10
   case' c10 => refine' pa_cons ?c11 pa_nil
   case' c11 => refine' pe_op op_catF (pvF 1) ?c12
   case' c12 => refine' pe_lst ?c13
   case' c13 => exact (pa_cons (pvF 2) pa_nil)
   case' c7 => refine' pss_cons ?c14 ?c15
   case' c14 => refine' ps_set (i := 3) sc_takes.nd rfl (Or.inl rfl) ?c16
   case' c16 => exact (pe_lst pa_nil)
   case' c15 => refine' pss_cons ?c17 ?c18
   case' c17 => refine' ps_for ?c19 ?c20 ?c21 ?c22 ?c23
   case c19 => exact PassesOwn.leaving
   case c20 => exact rfl
   case' c21 => refine' pi_enum (K := K) rfl rfl T.b_enumerate ?c24
   case' c24 => exact (pa_cons (pvF 1) pa_nil)
   case' c22 => refine' pg_F (n := 2) rfl ?c25
   case' c25 => refine' pgs_consF (pg_name (i := 4) sc_takes.nd rfl (Or.inl rfl)) ?c26
   case' c26 => exact (pgs_consF (pg_name (i := 5) sc_takes.nd rfl (Or.inl rfl)) pgs_nilF)
   case' c23 => refine' pss_cut ?c27 ?c28
   case' c27 => refine' ps_set (i := 6) sc_takes.nd rfl (Or.inl rfl) ?c29
   case' c29 => refine' pe_fn F_land_within (hr.mono (by decide)) rfl passE0 ?c30
   case' c30 => refine' pa_cons (pvF 0) ?c31
   case' c31 => refine' pa_cons (pvF 1) ?c32
   case' c32 => exact (pa_cons (pvF 4) pa_nil)
   case' c28 => refine' pss_cut ?c33 ?c34
   case' c33 => refine' ps_set (i := 7) ?c35 ?c36 ?c37 ?c38
   case c35 => exact sc_takes.nd
   case c36 => exact rfl
   case c37 => exact (Or.inl rfl)
   case' c38 => refine' pe_fn ?c39 ?c40 ?c41 ?c42 ?c43
   case c39 => exact F_cut
   case c40 => exact (hr.mono (by decide))
   case c41 => exact rfl
   case c42 => exact passE0
   case' c43 => refine' pa_cons ?c44 ?c45
   case c44 => exact (pvF 6)
   case' c45 => refine' pa_cons ?c46 ?c47
   case' c46 => refine' pe_fn F_between (hr.mono (by decide)) rfl passE0 ?c48
   case' c48 => refine' pa_cons (pvF 5) ?c49
   case' c49 => exact (pa_cons (pvF 2) pa_nil)
   case' c47 => refine' pa_cons ?c50 pa_nil
   case' c50 => refine' pe_callB call_lenF (by rfl) T.b_len PySem.boot_len ?c51
   case' c51 => exact (pa_cons (pvF 1) pa_nil)
   case' c34 => refine' pss_one ?c52
   case' c52 => refine' ps_if ?c53 ?c54 ?c55
   case c53 => exact (pt_cmpF (op_neDK (K := K) rfl (hu64 hr)) (pvF 7) (pvF 6) (nomark _))
   case' c54 => refine' pss_one ?c56
   case' c56 => refine' ps_expr ?c57
   case' c57 => refine' pe_app ?c58 ?c59
   case c58 => exact (pvF 3)
   case' c59 => refine' pa_cons ?c60 ?c61
   case' c60 => refine' pe_tup ?c62
   case' c62 => refine' pa_cons ?c63 ?c64
   case c63 => exact (pvF 4)
   case' c64 => refine' pa_cons ?c65 ?c66
   case' c65 => refine' pe_fn ?c67 ?c68 ?c69 ?c70 ?c71
   case c67 => exact F_difference
   case c68 => exact (hr.mono (by decide))
   case c69 => exact rfl
   case c70 => exact passE0
   case' c71 => refine' pa_cons ?c72 ?c73
   case' c72 => refine' pe_fn F_area (hr.mono (by decide)) rfl passE0 ?c74
   case' c74 => exact (pa_cons (pvF 6) pa_nil)
   case' c73 => refine' pa_cons ?c75 pa_nil
   case' c75 => refine' pe_fn F_area (hr.mono (by decide)) rfl passE0 ?c76
   case' c76 => exact (pa_cons (pvF 7) pa_nil)
   case c66 => exact pa_nil
   case c61 => exact pa_nil
   case c55 => exact pss_nil
   case' c18 => exact (pss_one (ps_ret (pvF 3)))
  case rest =>
   obtain ⟨bo, hts, sm, few, hB, hM, hS, hF⟩ := h
   have lq : (qs.map V.ref).length = rs.length := by rw [List.length_map]; exact bo.at_.1
   simp only [L2.start, List.map_cons, List.map_nil, List.length_cons, List.length_nil, Nat.reduceAdd, Nat.reduceSub, List.replicate_succ, List.replicate_zero, List.cons_append, List.nil_append, List.append_nil]
   refine ⟨fun σ H' => σ = [some (.ref b), some (.ref l), some (.ref t), none, none, none, none, none] ∧ Ext H H' ∧ (x < u ∧ y < v) ∧ cnt rs ∧ AllOk x y u v rs, ?_, ?_⟩
   ·o_head ⟨tRaiseN, tAt, tTryN, sp_cbsE⟩
    exact ⟨x, y, u, v, qs, rs, bo, fun q H' x' => hB q H' x', fun a c q H' x' => hM ⟨⟨a, c⟩, .inl q⟩ H' x', fun a c d e i f H' dx x' hd => hS i ⟨⟨a, c⟩, ⟨d, e⟩, .inl f⟩ H' dx x' hd, fun a c d e f H' x' => ⟨x', a, c, ⟨d, e⟩, f⟩⟩
   rintro σ H0 ⟨rfl, x0, hbx, hcn, ao⟩
   have bo0 := bo.ext x0
   refine ⟨fun σ H' => σ = [some (.ref b), some (.ref l), some (.ref t), none, none, none, none, none] ∧ Ext H0 H' ∧ cnt (rs ++ [s]) ∧ AllOk x y u v (rs ++ [s]), ?_, ?_⟩
   ·o_head ⟨tRaiseN, tAt, tTryN, bo0.sp⟩
    refine ⟨by decide, fun p1 h1 => ?_⟩
    have e1 := upd_f (o := .lst [.ref t]) h1 bo0.sp
    o_head ⟨tRaiseN, tAt, tTryN, e1⟩
    refine ⟨by rw [lq]; show _ + 1 < _; omega, fun p2 h2 => ?_⟩
    have xx := (Ext.upd (o := .lst [.ref t]) h1).then (o := .lst (qs.map V.ref ++ [.ref t])) h2
    o_head ⟨tRaiseN, tAt, tTryN, sp_cbsE⟩
    exact ⟨x, y, u, v, qs ++ [t], rs ++ [s], ⟨xx _ _ bo0.bx, by rw [upd_same, List.map_append]; rfl, (bo0.at_.ext xx).snoc (xx _ _ (x0 _ _ hts)), bo.b4, by rw [List.length_append, List.length_singleton]; omega⟩,
     fun q => (q hbx).elim, fun _ _ q H' x' => hM ⟨hbx, .inr ⟨hcn, ao, q⟩⟩ H' (x0.trans (xx.trans x')), fun _ _ d e i f H' dx x' hd => hS i ⟨hbx, hcn, .inr ⟨ao, ⟨d, e⟩, f⟩⟩ H' dx (x0.trans (xx.trans x')) hd, fun _ _ d e f H' x' => ⟨xx.trans x', ⟨d, e⟩, f⟩⟩
   rintro σ H1 ⟨rfl, x1, c2, ao2⟩
   have nd2 := ao2.nd
   have hs := ao2.ins s (by simp)
   have n0 := hcn.1
   have n12 := hcn.2
   have l12 := c2.2
   rw [List.length_append, List.length_singleton] at l12
   have mo : MoreOk H b l t x y u v qs rs s := ⟨⟨bo.bx, bo.sp, bo.at_, hbx.1, hbx.2, fun r hr => ao.ins r hr, ao.nd, n0, n12, by have := sm.1; omega⟩, hts, fun z => by
    have := (List.nodup_append.mp nd2).2.2 s z s (by simp)
    exact this rfl, hs, by omega, sm⟩
   have ok := mo.ok
   have h : ∀ (D : Addr) (ts : List Addr) (os : List (Option (Int × Int))) (H' : Hp), Ext H H' → H D = none → H' D = some (.lst (ts.map V.ref)) → os.length = rs.length → (∀ i o, os[i]? = some o → TakeRow rs s x y u v i o) → RowsAt H' ts (rowsL os) → Q (.ref D) H' := fun D ts os H' x' _ _ _ _ _ => hF ⟨hbx, hcn, ao, c2, ao2⟩ _ H' x'
   have n11 := mo.n11
   have mo0 := mo.ext x0
   ·skip
    have mo1 := mo0.ext x1
    have x01 := x0.trans x1
    o_head ⟨tRaiseN, tAt, tTryN⟩
    refine ⟨by decide, fun D hD => ?_⟩
    refine tfor_enum (fun a' H2 => a' = l ∧ H2 = upd H1 D (.lst [])) ?_ ?_
    ·intro R hR
     o_head ⟨tRaiseN, tAt, tTryN⟩
     exact hR _ _ ⟨rfl, rfl⟩
    ·rintro l' _ ⟨el, rfl⟩
     subst l'
     refine ⟨qs.map V.ref, fun i σ H' => ∃ (o4 o5 o6 o7 : Option V) (ts : List Addr) (os : List (Option (Int × Int))), σ = [some (.ref b), some (.ref l), some (.ref t), some (.ref D), o4, o5, o6, o7] ∧ H' D = some (.lst (ts.map V.ref)) ∧ os.length = i ∧ (∀ i o, os[i]? = some o → TakeRow rs s x y u v i o) ∧ RowsAt H' ts (rowsL os) ∧ Ext H1 H', ⟨_, _, _, _, [], [], rfl, upd_same, rfl, fun i o hi => by simp at hi, ⟨rfl, fun i t z a => by simp at a⟩, .upd hD⟩, ?_, ?_, ?_⟩
     ·rintro i σ H' _ ⟨o4, o5, o6, o7, ts, os, rfl, eD, _, _, _, x'⟩
      exact SqL.of (x' _ _ mo1.ok.sp)
     ·rintro i w1 t5 σ H2 hi ⟨o4, o5, o6, o7, ts, os, rfl, eD, lo, hos, rws, x2⟩ ht5
      obtain ⟨q, hqi, rfl⟩ := refs_get hi
      have li : i < rs.length := by rw [← ok.at_.1]; exact (List.getElem?_eq_some_iff.mp hqi).1
      obtain ⟨r, hri⟩ : ∃ r, rs[i]? = some r := ⟨_, List.getElem?_eq_getElem li⟩
      have xt := Ext.upd (o := .tup [.int (i : Int), .ref q]) ht5
      have et := upd_same (H := H2) (a := t5) (o := .tup [.int (i : Int), .ref q])
      generalize upd H2 t5 (.tup [.int (i : Int), .ref q]) = H3 at xt et ⊢
      have mo3 := mo1.ext (x2.trans xt)
      have eq3 := mo3.ok.at_.2 i q r hqi hri
      have eD3 := xt _ _ eD
      have rw3 := rws.ext xt
      have x3 := x2.trans xt
      have ne : r ≠ s := fun z => mo.nin (z ▸ List.mem_of_getElem? hri)
      o_head ⟨tRaiseN, tAt, tTryN, gSeqF, gCons, gNil, et⟩
      refine ⟨fun σ H' => ∃ (f c e : Addr) (ps : List Addr) (L : List Vx), σ = [some (.ref b), some (.ref l), some (.ref t), some (.ref D), some (.int (i : Int)), some (.ref q), some (.ref f), o7] ∧ FldAt H' f c e ps L ∧ LandOk x y u v rs r (othersL rs.length i) L ∧ Chain rs r (othersL rs.length i) (boxL x y u v) L ∧ Ext H3 H', ?_, ?_⟩
      ·o_head ⟨tRaiseN, tAt, tTryN⟩
       refine ⟨b, l, i, x, y, u, v, qs, rs, r, rfl, mo3.ok, hri, fun f c e ps L H4 x4 _ hf hL ch => ?_⟩
       exact ⟨f, rfl, c, e, ps, L, hf, hL, ch, x4⟩
      ·rintro σ H4 ⟨f, c, e, ps, L, rfl, hf, hL, ch, x4⟩
       have mo4 := mo3.ext x4
       have ln := mo.lnb hri hL
       have lL := hL.len
       have lo2 := othersL_len rs.length i
       have lo3 := othersL_lt i rs.length li
       have ins := ok.ins r (List.mem_of_getElem? hri)
       have own := land_own hL ok.xu ok.yv ins fun j hj z => nodup_ne ok.nd hri z (mem_othersL.mp hj).2 rfl
       have sz := ok.sz
       have bm : B3 300 (lnB r s) := by
        have a2 := mo.ins
        have b' := lnB_bd (n := 110) (bd29 (n := r.1) (by omega) (by omega) 110) (bd29 (n := r.2) (by omega) (by omega) 110) (bd29 (n := s.1) (by omega) (by omega) 110) (bd29 (n := s.2) (by omega) (by omega) 110) ne
        exact ⟨b'.1.mono (by decide), b'.2.1.mono (by decide), b'.2.2.mono (by decide)⟩
       have sr := mo.sm.2 r (List.mem_append_left _ (List.mem_of_getElem? hri))
       have ss := mo.sm.2 s (by simp)
       have bl64 := lnB_bd (n := 30) (b30 sr.1) (b30 sr.2) (b30 ss.1) (b30 ss.2) ne
       refine ⟨fun σ H' => ∃ (f' c' e' : Addr) (ps' : List Addr) (L' : List Vx), σ = [some (.ref b), some (.ref l), some (.ref t), some (.ref D), some (.int (i : Int)), some (.ref q), some (.ref f), some (.ref f')] ∧ FldAt H' f' c' e' ps' L' ∧ StepL (lnB r s) (rs.length : Int) L L' ∧ (Poly L' ∧ LnB 64 L' ∧ L'.length ≤ 15) ∧ Ext H4 H', ?_, ?_⟩
       ·have bs2 : B2 400 (s.1, s.2) := ⟨(b30 ss.1).mono (by decide), (b30 ss.2).mono (by decide)⟩
        have br2 : B2 400 (r.1, r.2) := ⟨(b30 sr.1).mono (by decide), (b30 sr.2).mono (by decide)⟩
        o_head ⟨tRaiseN, tAt, tTryN, mo4.ok.sp, lq, sp_between, x4 _ _ eq3, mo4.sp, BtwOk⟩
        refine ⟨br2, bs2, ne, fun t6 h6 => ?_⟩
        have x6 := Ext.upd (o := .tup [.int (lnB r s).1, .int (lnB r s).2.1, .int (lnB r s).2.2]) h6
        o_head ⟨tRaiseN, tAt, tTryN, (mo4.ext x6).ok.sp, lq⟩
        refine ⟨f, t6, rs.length, c, e, ps, L, lnB r s, rfl, hf.ext x6, upd_same, hL.poly, hL.lnb, bm, by omega, fun H5 x5 q1 q2 => ?_, fun f' c' e' ps' H5 x5 _ hf' q1 => ?_, fun f' c' e' ps' L' H5 x5 _ hf' q1 q2 rt ld => ?_⟩
        ·obtain ⟨w', hw, lt⟩ := some_behind hL.poly own (own_lt ne)
         have := q1 w' hw
         omega
        ·exact ⟨f', rfl, c', e', ps', L, hf', .inl ⟨rfl, q1⟩, hL.poly, ln, by omega, x6.trans x5⟩
        ·have cl := cut_len hL.poly (lnB r s) (rs.length : Int) q1 q2
         have rl := rt.len
         exact ⟨f', rfl, c', e', ps', L', hf', .inr ⟨q1, q2, rt, ld⟩, rt.poly (cut_poly hL.poly _ _ q1 q2), (rest_lnb ln bl64).rot rt, by omega, x6.trans x5⟩
       ·rintro σ H5 ⟨f', c', e', ps', L', rfl, hf', stp, ⟨hP', ln', l15⟩, x5⟩
        have hf5 := hf.ext x5
        have x35 := x4.trans x5
        have eD5 := x35 _ _ eD3
        have rw5 := rw3.ext x35
        o_head ⟨tRaiseN, tAt, tTryN⟩
        refine ⟨_, _, hf'.rdy, hf5.rdy, shaped_fld _ _, shaped_fld _ _, ?_⟩; dsimp only
        have aL := area_made hL.poly
        have aL' := area_made hP'
        obtain ⟨a1, b1, f1⟩ := aL
        obtain ⟨a2, b2, f2⟩ := aL'
        by_cases eqf : fdOf L' = fdOf L
        ·rw [eqv_pos (fdOf_plain _) eqf]
         o_head ⟨tRaiseN, tAt, tTryN⟩
         refine ⟨⟨_, rfl⟩, ts, eD5, os ++ [none], by rw [List.length_append, lo]; rfl, fun j o hj => ?_, ?_, x3.trans x35⟩
         ·by_cases hlt : j < os.length
          ·rw [List.getElem?_append_left hlt] at hj
           exact hos j o hj
          ·have : j = os.length := by
            have := (List.getElem?_eq_some_iff.mp hj).1
            rw [List.length_append] at this
            simp only [List.length_cons, List.length_nil] at this
            omega
           subst this
           rw [List.getElem?_append_right (Nat.le_refl _), Nat.sub_self] at hj
           cases hj
           rw [lo]
           exact ⟨r, L, L', a1, b1, a2, b2, hri, ch, stp, f1, f2, ⟨f1.pos, f2.pos⟩, ⟨arD_ne f1, arD_ne f2⟩, .inl ⟨eqf, rfl⟩⟩
         ·rw [rowsL_snoc]
          show RowsAt H5 ts (rowsL os ++ [])
          rw [List.append_nil]
          exact rw5
        ·rw [eqv_neg (fdOf_plain _) (fdOf_plain _) eqf]
         o_head ⟨tRaiseN, tAt, tTryN, eD5⟩
         refine ⟨f, c, e, ps, L, rfl, hf5, hL.poly, ln, by omega, fun g1 u1 v1 H6 x6 _ eg1 k1 bu1 bv1 => ?_⟩
         refine ⟨f', c', e', ps', L', rfl, hf'.ext x6, hP', ln', l15, fun g2 u2 v2 H7 x7 _ eg2 k2 bu2 bv2 => ?_⟩
         refine ⟨g1, g2, u1, v1, u2, v2, rfl, x7 _ _ eg1, eg2, ⟨k1.pos, k2.pos⟩, ⟨_, _, ⟨bu1, bv1⟩, ⟨bu2, bv2⟩, by omega⟩, fun t8 p8 q8 h8 hf8 => ⟨by decide, fun t9 h9 => ?_⟩⟩
         have x79 := (x6.trans x7).trans ((Ext.upd (o := .tup [.int p8, .int q8]) h8).then (o := .tup [.int (i : Int), .ref t8]) h9)
         have eD9 := x79 _ _ eD5
         have lts := rws.1
         have l12 : (rowsL os).length ≤ os.length := rowsL_len os
         rw [eD9, lstOf_l, optK_some]
         refine ⟨by rw [List.length_map]; omega, ⟨_, rfl⟩, ts ++ [t9], by rw [List.map_append]; rfl, os ++ [some (p8, q8)], by rw [List.length_append, lo]; rfl, fun j o hj => ?_, ?_, (x3.trans (x35.trans x79)).set hD⟩
         ·by_cases hlt : j < os.length
          ·rw [List.getElem?_append_left hlt] at hj
           exact hos j o hj
          ·have : j = os.length := by
            have := (List.getElem?_eq_some_iff.mp hj).1
            rw [List.length_append] at this
            simp only [List.length_cons, List.length_nil] at this
            omega
           subst this
           rw [List.getElem?_append_right (Nat.le_refl _), Nat.sub_self] at hj
           cases hj
           rw [lo]
           exact ⟨r, L, L', u1, v1, u2, v2, hri, ch, stp, k1, k2, ⟨k1.pos, k2.pos⟩, ⟨arD_ne k1, arD_ne k2⟩, .inr ⟨eqf, p8, q8, hf8, rfl⟩⟩
         ·rw [rowsL_snoc, lo]
          exact ((rw5.ext x79).snoc (z := ((i : Int), p8, q8)) ⟨t8, upd_same, upd_f h9 upd_same⟩).setL eD9
     ·rintro σ H2 ⟨o4, o5, o6, o7, ts, os, rfl, eD, lo, hos, rws, x2⟩
      o_head ⟨tRaiseN, tAt, tTryN⟩
      refine h D ts os H2 (x01.trans x2) (x01.none hD) eD ?_ hos rws
      rw [lo, lq]
end
end LW
namespace LW
open PySem L2 MA PyProof.Rows MC
section
variable {P : Program} {w : World} {K : PySem.W.Frag} {mg : Str → Option Value} {base : Heap}
theorem sc__law_feed : FnScope ["_law_script", "_law_k", "_law_cell"] ["_law_script", "_law_k"] (defScope s__law_feed) := ⟨rfl, rfl, rfl, by decide +kernel, rfl, by decide +kernel, by decide +kernel⟩
set_option maxHeartbeats 0 in
theorem ok__law_feed {C : Cz} {f : Addr} {fd : FuncData} (F : Fun K "_law_feed" "_law_feed" s__law_feed f fd) (T : Txt P K mg C)  : FnOk P w K mg base (CXE P w) 1 f fd ["_law_script", "_law_k"] (sp_feed K) := by
 refine okN F (k := 0) sc__law_feed (fun vs H Q E h => ?_) (fun cdv A outer s H vs Q E hr h => ?_)
 ·obtain ⟨a, ns, k, rfl, _⟩ := h
  rfl
 ·obtain ⟨a, ns, k, rfl, h⟩ := h
  refine' ⟨_, ?main, ?rest⟩
  case main =>
   refine' pss_cons ?c1 ?c2
   case' c1 => exact (ps_set (i := 2) sc__law_feed.nd rfl (Or.inl rfl) pe_int)
   case' c2 => refine' pss_cons ?c3 ?c4
   case' c3 => refine' ps_if ?c5 ?c6 ?c7
   case' c5 => refine' pt_cmpF (OpR.f0 op_gt) ?c8 pe_int (nomark _)
   case' c8 => refine' pe_callB (call_lenK (K := K) rfl) (by rfl) T.b_len PySem.boot_len ?c9
   case' c9 => exact (pa_cons (pvF 0) pa_nil)
   case' c6 => refine' pss_one ?c10
   case' c10 => refine' ps_set (i := 2) sc__law_feed.nd rfl (Or.inl rfl) ?c11
   case' c11 => refine' pe_ix (ix_listK (K := K) rfl) (pvF 0) ?c12 (fun _ _ => rfl)
   case' c12 => refine' pe_op (OpR.f op_mod) (pvF 1) ?c13
   case' c13 => refine' pe_callB (call_lenK (K := K) rfl) (by rfl) T.b_len PySem.boot_len ?c14
   case' c14 => exact (pa_cons (pvF 0) pa_nil)
   case c7 => exact pss_nil
   case' c4 => refine' pss_one ?c15
   case' c15 => refine' ps_ret ?c16
   case' c16 => refine' pe_lst ?c17
   case' c17 => refine' pa_cons ?c18 ?c19
   case c18 => exact (pvF 2)
   case' c19 => refine' pa_cons ?c20 ?c21
   case' c20 => exact (pe_op (OpR.f op_mod) (pvF 2) pe_int)
   case' c21 => refine' pa_cons ?c22 pa_nil
   case' c22 => refine' pe_op (OpR.f0 op_add) ?c23 pe_int
   case' c23 => exact (pe_op (OpR.f op_mulA) pe_int (pvF 1))
  case rest =>
   obtain ⟨hs, h⟩ := h
   simp only [L2.start, List.map_cons, List.map_nil, List.length_cons, List.length_nil, Nat.reduceAdd, Nat.reduceSub, List.replicate_succ, List.replicate_zero, List.cons_append, List.nil_append, List.append_nil]
   o_head ⟨tRaiseN, tAt, tTryN⟩
   refine ⟨_, .inl hs, ?_⟩
   split
   ·rename_i z
    rw [List.length_map] at z
    obtain ⟨x, hx, _⟩ := atI_mod (xs := ns) (k := k) (by omega)
    refine ⟨_, .inl hs, by rw [List.length_map]; omega, a, _, _, .int x, rfl, rfl, hs, by rw [List.length_map]; exact hx, by decide, .left (by decide) (by decide), by decide, fun p hp => h p _ _ _ hp⟩
   ·exact ⟨.left (by decide) (by decide), by decide, fun p hp => h p _ _ _ hp⟩
end
end LW
namespace LW
open PySem L2 MA PyProof.Rows MC
section
variable {P : Program} {w : World} {K : PySem.W.Frag} {mg : Str → Option Value} {base : Heap}
theorem sc__law_next : FnScope ["_law_feed_here", "_law_many", "_law_digit", "_law_number"] ["_law_feed_here", "_law_many"] (defScope s__law_next) := ⟨rfl, rfl, rfl, by decide +kernel, rfl, by decide +kernel, by decide +kernel⟩
set_option maxHeartbeats 0 in
theorem ok__law_next {C : Cz} {f : Addr} {fd : FuncData} (F : Fun K "_law_next" "_law_next" s__law_next f fd) (T : Txt P K mg C)  : FnOk P w K mg base (CXE P w) 1 f fd ["_law_feed_here", "_law_many"] sp_next := by
 refine okN F (k := 0) sc__law_next (fun vs H Q E h => ?_) (fun cdv A outer s H vs Q E hr h => ?_)
 ·obtain ⟨p, m, rfl, _⟩ := h
  rfl
 ·obtain ⟨p, m, rfl, h⟩ := h
  refine' ⟨_, ?main, ?rest⟩
  case main =>
   refine' pss_cons ?c1 ?c2
   case' c1 => refine' ps_if ?c3 ?c4 ?c5
   case' c3 => refine' pt_cmpF (OpR.f0 op_ge) ?c6 ?c7 (nomark _)
   case' c6 => exact (pe_ix ix_F (pvF 0) pe_int (fun _ _ => rfl))
   case' c7 => exact (pe_op (OpR.f op_powB) pe_int pe_int)
   case' c4 => refine' pss_cons ?c8 ?c9
   case' c8 => refine' ps_set (i := 2) sc__law_next.nd rfl (Or.inl rfl) ?c10
   case' c10 => refine' pe_op (OpR.f op_mod) ?c11 (pvF 1)
   case' c11 => exact (pe_ix ix_F (pvF 0) pe_int (fun _ _ => rfl))
   case' c9 => refine' pss_cons ?c12 ?c13
   case' c12 => refine' ps_asg ?c14 ?c15
   case' c14 => refine' pe_op (OpR.f op_fdivB) ?c16 (pvF 1)
   case' c16 => exact (pe_ix ix_F (pvF 0) pe_int (fun _ _ => rfl))
   case' c15 => exact (pg_sub (pvF 0) pe_int set_F)
   case' c13 => exact (pss_one (ps_ret (pvF 2)))
   case c5 => exact pss_nil
   case' c2 => refine' pss_cons ?c17 ?c18
   case' c17 => refine' ps_asg ?c19 ?c20
   case' c19 => refine' pe_op (OpR.f0 op_add) ?c21 pe_int
   case' c21 => exact (pe_ix ix_F (pvF 0) pe_int (fun _ _ => rfl))
   case' c20 => exact (pg_sub (pvF 0) pe_int set_F)
   case' c18 => refine' pss_cons ?c22 ?c23
   case' c22 => refine' ps_set (i := 3) ?c24 ?c25 ?c26 ?c27
   case c24 => exact sc__law_next.nd
   case c25 => exact rfl
   case c26 => exact (Or.inl rfl)
   case' c27 => refine' pe_op ?c28 ?c29 ?c30
   case c28 => exact (OpR.f op_mod)
   case' c29 => refine' pe_op (OpR.f op_mulA) ?c31 pe_int
   case' c31 => refine' pe_op (OpR.f0 op_add) ?c32 ?c33
   case' c32 => exact (pe_ix ix_F (pvF 0) pe_int (fun _ _ => rfl))
   case' c33 => refine' pe_op (OpR.f op_mulA) pe_int ?c34
   case' c34 => exact (pe_ix ix_F (pvF 0) pe_int (fun _ _ => rfl))
   case c30 => exact pe_int
   case' c23 => refine' pss_cons ?c35 ?c36
   case' c35 => refine' ps_set (i := 3) sc__law_next.nd rfl (Or.inl rfl) ?c37
   case' c37 => refine' pe_op (OpR.f op_mod) ?c38 pe_int
   case' c38 => refine' pe_op (OpR.f0 op_add) (pe_op (OpR.f op_mulA) (pvF 3) (pvF 3)) ?c39
   case' c39 => refine' pe_op (OpR.f op_mulA) pe_int ?c40
   case' c40 => exact (pe_ix ix_F (pvF 0) pe_int (fun _ _ => rfl))
   case' c36 => refine' pss_one ?c41
   case' c41 => refine' ps_ret ?c42
   case' c42 => refine' pe_op ?c43 ?c44 ?c45
   case c43 => exact (OpR.f op_mod)
   case' c44 => refine' pe_op (OpR.f op_fdivB) ?c46 pe_int
   case' c46 => refine' pe_op (OpR.f op_mod) ?c47 pe_int
   case' c47 => refine' pe_op (OpR.f op_mulA) (pvF 3) ?c48
   case' c48 => refine' pe_op (OpR.f0 op_add) ?c49 pe_int
   case' c49 => exact (pe_op (OpR.f op_mod) (pvF 3) pe_int)
   case c45 => exact (pvF 1)
  case rest =>
   obtain ⟨⟨a, b, c, hp⟩, hm0, hm1, h⟩ := h
   simp only [L2.start, List.map_cons, List.map_nil, List.length_cons, List.length_nil, Nat.reduceAdd, Nat.reduceSub, List.replicate_succ, List.replicate_zero, List.cons_append, List.nil_append, List.append_nil]
   o_head ⟨tRaiseN, tAt, tTryN, hp⟩
   have fx : ∀ x y z : Int, FX p H (upd H p (.lst [.int x, .int y, .int z])) := fun x y z => ⟨⟨x, y, z, upd_same⟩, fun b o hb e => by rw [upd_ne hb]; exact e⟩
   have hmb : Bd 9000 m := Bd.mono (m := 140) (Bd.of_le 10000000000000000000000000000000000000000 (by omega) (by omega) (by decide)) (by decide)
   have hm2 : ¬ m = 0 := by omega
   split
   ·exact ⟨hm0, hm2, hmb, h _ _ (Int.emod_nonneg _ hm2) (Int.emod_lt_of_pos _ hm0) (fx _ _ _)⟩
   ·exact ⟨.left (by decide) (by decide), .right (by decide) (by decide), .mod (by decide) (by decide), .left (by decide) (by decide), .mod (by decide) (by decide), hm0, h _ _ (Int.emod_nonneg _ hm2) (Int.emod_lt_of_pos _ hm0) (fx _ _ _)⟩
end
end LW
namespace LW
open PySem L2 MA PyProof.Rows MC
section
variable {P : Program} {w : World} {K : PySem.W.Frag} {mg : Str → Option Value} {base : Heap}
theorem sc__law_spots : FnScope ["_law_feed_here", "_law_box", "_law_found", "_law_k", "_law_spots_here", "_law_way"] ["_law_feed_here", "_law_box"] (defScope s__law_spots) := ⟨rfl, rfl, rfl, by decide +kernel, rfl, by decide +kernel, by decide +kernel⟩
set_option maxHeartbeats 0 in
theorem ok__law_spots {C : Cz} {f : Addr} {fd : FuncData} (F : Fun K "_law_spots" "_law_spots" s__law_spots f fd) (T : Txt P K mg C) (F__law_next : FnB P w K mg base (CXE P w) 1 "_law_next" ["_law_feed_here", "_law_many"] sp_next) : FnOk P w K mg base (CXE P w) 2 f fd ["_law_feed_here", "_law_box"] (sp_spots K) := by
 refine okN F (k := 1) sc__law_spots (fun vs H Q E h => ?_) (fun cdv A outer s H vs Q E hr h => ?_)
 ·obtain ⟨p, b, x, y, u, v, rfl, _⟩ := h
  rfl
 ·obtain ⟨p, b, x, y, u, v, rfl, h⟩ := h
  refine' ⟨_, ?main, ?rest⟩
  case main =>
   refine' pss_cons ?c1 ?c2
   case' c1 => exact (ps_set (i := 2) sc__law_spots.nd rfl (Or.inl rfl) pe_dnewT)
   case' c2 => refine' pss_cut ?c3 ?c4
   case' c3 => refine' ps_for ?c5 ?c6 ?c7 ?c8 ?c9
   case c5 => exact PassesOwn.never
   case c6 => exact rfl
   case' c7 => refine' pi_range1 rfl T.b_range ?c10
   case' c10 => refine' pa_cons ?c11 pa_nil
   case' c11 => refine' pe_op (OpR.f0 op_add) pe_int ?c12
   case' c12 => refine' pe_fn F__law_next (hr.mono (by decide)) rfl passE0 ?c13
   case' c13 => refine' pa_cons (pvF 0) ?c14
   case' c14 => exact (pa_cons pe_int pa_nil)
   case c8 => exact (pg_name (i := 3) sc__law_spots.nd rfl (Or.inl rfl))
   case' c9 => refine' pss_one ?c15
   case' c15 => refine' ps_dpT ?c16 ?c17 ?c18 ?c19 ?c20
   case c16 => exact (hu_of hr)
   case c17 => exact (pvF 2)
   case' c18 => refine' pe_tup ?c21
   case' c21 => refine' pa_cons ?c22 ?c23
   case' c22 => refine' pe_op ?c24 ?c25 ?c26
   case c24 => exact (OpR.f0 op_add)
   case' c25 => exact (pe_ix ix_F (pvF 1) pe_int (fun _ _ => rfl))
   case' c26 => refine' pe_fn ?c27 ?c28 ?c29 ?c30 ?c31
   case c27 => exact F__law_next
   case c28 => exact (hr.mono (by decide))
   case c29 => exact rfl
   case c30 => exact passE0
   case' c31 => refine' pa_cons ?c32 ?c33
   case c32 => exact (pvF 0)
   case' c33 => refine' pa_cons ?c34 pa_nil
   case' c34 => refine' pe_op (OpR.f0 op_add) ?c35 pe_int
   case' c35 => refine' pe_op (OpR.f0 op_sub) ?c36 ?c37
   case' c36 => exact (pe_ix ix_F (pvF 1) pe_int (fun _ _ => rfl))
   case' c37 => exact (pe_ix ix_F (pvF 1) pe_int (fun _ _ => rfl))
   case' c23 => refine' pa_cons ?c38 ?c39
   case' c38 => refine' pe_op ?c40 ?c41 ?c42
   case c40 => exact (OpR.f0 op_add)
   case' c41 => exact (pe_ix ix_F (pvF 1) pe_int (fun _ _ => rfl))
   case' c42 => refine' pe_fn ?c43 ?c44 ?c45 ?c46 ?c47
   case c43 => exact F__law_next
   case c44 => exact (hr.mono (by decide))
   case c45 => exact rfl
   case c46 => exact passE0
   case' c47 => refine' pa_cons ?c48 ?c49
   case c48 => exact (pvF 0)
   case' c49 => refine' pa_cons ?c50 pa_nil
   case' c50 => refine' pe_op (OpR.f0 op_add) ?c51 pe_int
   case' c51 => refine' pe_op (OpR.f0 op_sub) ?c52 ?c53
   case' c52 => exact (pe_ix ix_F (pvF 1) pe_int (fun _ _ => rfl))
   case' c53 => exact (pe_ix ix_F (pvF 1) pe_int (fun _ _ => rfl))
   case c39 => exact pa_nil
   case c19 => exact pe_bl
   case c20 => exact rfl
   case' c4 => refine' pss_cut ?c54 ?c55
   case' c54 => refine' ps_set (i := 4) sc__law_spots.nd rfl (Or.inl rfl) ?c56
   case' c56 => refine' pe_callTy (call_listD rfl) (by rfl) T.b_list boot_list ?c57
   case' c57 => exact (pa_cons (pvF 2) pa_nil)
   case' c55 => refine' pss_cut ?c58 ?c59
   case' c58 => refine' ps_set (i := 5) sc__law_spots.nd rfl (Or.inl rfl) ?c60
   case' c60 => refine' pe_fn F__law_next (hr.mono (by decide)) rfl passE0 ?c61
   case' c61 => refine' pa_cons (pvF 0) ?c62
   case' c62 => exact (pa_cons pe_int pa_nil)
   case' c59 => refine' pss_cut ?c63 ?c64
   case' c63 => refine' ps_if ?c65 ?c66 pss_nil
   case' c65 => exact (pt_cmpF op_eqI (pvF 5) pe_int (nomark _))
   case' c66 => refine' pss_one ?c67
   case' c67 => refine' ps_ret ?c68
   case' c68 => exact (pe_lst pa_nil)
   case' c64 => refine' pss_cut ?c69 ?c70
   case' c69 => refine' ps_if ?c71 ?c72 pss_nil
   case' c71 => exact (pt_cmpF op_eqI (pvF 5) pe_int (nomark _))
   case' c72 => refine' pss_one ?c73
   case' c73 => refine' ps_ret ?c74
   case' c74 => exact (pe_op op_rep (pvF 4) pe_int)
   case' c70 => refine' pss_cut ?c75 ?c76
   case' c75 => refine' ps_if ?c77 ?c78 ?c79
   case' c77 => exact (pt_cmpF op_eqI (pvF 5) pe_int (nomark _))
   case' c78 => refine' pss_one ?c80
   case' c80 => refine' ps_ret ?c81
   case' c81 => refine' pe_op ?c82 ?c83 ?c84
   case c82 => exact op_catF
   case' c83 => refine' pe_lst ?c85
   case' c85 => refine' pa_cons ?c86 ?c87
   case' c86 => refine' pe_tup ?c88
   case' c88 => refine' pa_cons ?c89 ?c90
   case' c89 => exact (pe_ix ix_F (pvF 1) pe_int (fun _ _ => rfl))
   case' c90 => refine' pa_cons ?c91 pa_nil
   case' c91 => exact (pe_ix ix_F (pvF 1) pe_int (fun _ _ => rfl))
   case' c87 => refine' pa_cons ?c92 ?c93
   case' c92 => refine' pe_tup ?c94
   case' c94 => refine' pa_cons ?c95 ?c96
   case' c95 => exact (pe_ix ix_F (pvF 1) pe_int (fun _ _ => rfl))
   case' c96 => refine' pa_cons ?c97 pa_nil
   case' c97 => refine' pe_op (OpR.f0 op_add) ?c98 pe_int
   case' c98 => exact (pe_ix ix_F (pvF 1) pe_int (fun _ _ => rfl))
   case' c93 => refine' pa_cons ?c99 ?c100
   case' c99 => refine' pe_tup ?c101
   case' c101 => refine' pa_cons ?c102 ?c103
   case' c102 => exact (pe_ix ix_F (pvF 1) pe_int (fun _ _ => rfl))
   case' c103 => refine' pa_cons ?c104 pa_nil
   case' c104 => exact (pe_ix ix_F (pvF 1) pe_int (fun _ _ => rfl))
   case c100 => exact pa_nil
   case' c84 => refine' pe_op ?c105 ?c106 ?c107
   case c105 => exact op_rep
   case' c106 => refine' pe_lst ?c108
   case' c108 => refine' pa_cons ?c109 ?c110
   case' c109 => refine' pe_tup ?c111
   case' c111 => refine' pa_cons ?c112 ?c113
   case' c112 => exact (pe_ix ix_F (pvF 1) pe_int (fun _ _ => rfl))
   case' c113 => refine' pa_cons ?c114 pa_nil
   case' c114 => exact (pe_ix ix_F (pvF 1) pe_int (fun _ _ => rfl))
   case c110 => exact pa_nil
   case c107 => exact pe_int
   case c79 => exact pss_nil
   case' c76 => refine' pss_cut ?c115 ?c116
   case' c115 => refine' ps_if ?c117 ?c118 ?c119
   case' c117 => exact (pt_cmpF op_eqI (pvF 5) pe_int (nomark _))
   case' c118 => refine' pss_one ?c120
   case' c120 => refine' ps_ret ?c121
   case' c121 => refine' pe_op ?c122 ?c123 ?c124
   case c122 => exact op_catF
   case c123 => exact (pvF 4)
   case' c124 => refine' pe_lst ?c125
   case' c125 => refine' pa_cons ?c126 ?c127
   case' c126 => refine' pe_tup ?c128
   case' c128 => refine' pa_cons ?c129 ?c130
   case' c129 => refine' pe_op ?c131 ?c132 ?c133
   case c131 => exact (OpR.f0 op_add)
   case' c132 => refine' pe_op (OpR.f0 op_add) ?c134 pe_int
   case' c134 => exact (pe_ix ix_F (pvF 1) pe_int (fun _ _ => rfl))
   case' c133 => refine' pe_fn F__law_next (hr.mono (by decide)) rfl passE0 ?c135
   case' c135 => refine' pa_cons (pvF 0) ?c136
   case' c136 => exact (pa_cons pe_int pa_nil)
   case' c130 => refine' pa_cons ?c137 pa_nil
   case' c137 => exact (pe_ix ix_F (pvF 1) pe_int (fun _ _ => rfl))
   case c127 => exact pa_nil
   case c119 => exact pss_nil
   case' c116 => refine' pss_cut ?c138 ?c139
   case' c138 => refine' ps_if ?c140 ?c141 ?c142
   case' c140 => exact (pt_cmpF op_eqI (pvF 5) pe_int (nomark _))
   case' c141 => refine' pss_one ?c143
   case' c143 => refine' ps_ret ?c144
   case' c144 => refine' pe_op ?c145 ?c146 ?c147
   case c145 => exact op_catF
   case c146 => exact (pvF 4)
   case' c147 => refine' pe_lst ?c148
   case' c148 => refine' pa_cons ?c149 ?c150
   case' c149 => refine' pe_ix ix_F (pvF 4) ?c151 (fun _ _ => rfl)
   case' c151 => refine' pe_fn F__law_next (hr.mono (by decide)) rfl passE0 ?c152
   case' c152 => refine' pa_cons (pvF 0) ?c153
   case' c153 => refine' pa_cons ?c154 pa_nil
   case' c154 => refine' pe_callB call_lenF (by rfl) T.b_len PySem.boot_len ?c155
   case' c155 => exact (pa_cons (pvF 4) pa_nil)
   case c150 => exact pa_nil
   case c142 => exact pss_nil
   case' c139 => exact (pss_one (ps_ret (pvF 4)))
  case rest =>
   obtain ⟨hF, hb, bi, h⟩ := h
   have bp : b ≠ p := by
    obtain ⟨a1, a2, a3, e⟩ := hF
    exact ne_of hb e (by intro z; cases z)
   have x0 := bi.x0
   have y0 := bi.y0
   have u0 := bi.u0
   have v0 := bi.v0
   simp only [L2.start, List.map_cons, List.map_nil, List.length_cons, List.length_nil, Nat.reduceAdd, Nat.reduceSub, List.replicate_succ, List.replicate_zero, List.cons_append, List.nil_append, List.append_nil]
   o_head ⟨tRaiseN, tAt, tTryN⟩
   intro D hD
   have nD := hF.ne hD
   refine ⟨fun σ H' => ∃ (o3 : Option V) (kvs : List (List Key × V)), σ = [some (.ref p), some (.ref b), some (.ref D), o3, none, none] ∧ H' D = some (.dT kvs) ∧ KvN kvs ∧ kvs.length ≤ 4 ∧ (0 < kvs.length) ∧ FX p H H', ?_, ?_⟩
   ·have fD := (FX.refl hF).upd (o := .dT []) hD
    refine tfor_rangeH (fun n H' => 1 ≤ n ∧ n ≤ 4 ∧ H' D = some (.dT []) ∧ FX p H H') ?_ ?_
    ·intro R hR
     o_head ⟨tRaiseN, tAt, tTryN, sp_next⟩
     refine ⟨fD.feed, fun r H1 r0 r1 f1 => ?_⟩
     have e : (1 : Int) + r = ((1 + r.toNat : Nat) : Int) := by omega
     rw [e]
     exact hR _ _ ⟨by omega, by omega, f1.keep D _ nD upd_same, fD.trans f1⟩
    ·rintro n H1 ⟨n1, n4, eD, f1⟩
     refine ⟨by omega, fun i σ H' => ∃ (o3 : Option V) (kvs : List (List Key × V)), σ = [some (.ref p), some (.ref b), some (.ref D), o3, none, none] ∧ H' D = some (.dT kvs) ∧ KvN kvs ∧ kvs.length ≤ i ∧ (0 < i → 0 < kvs.length) ∧ FX p H H', ⟨_, [], rfl, eD, ⟨⟨List.nodup_nil, fun kv hk => absurd hk List.not_mem_nil⟩, fun r hr => by simp at hr⟩, Nat.le_refl _, fun z => absurd z (Nat.lt_irrefl _), f1⟩, ?_, ?_⟩
     ·rintro i σ H2 hi ⟨o3, kvs, rfl, eK, kn, kl, k0, f2⟩
      have eb := f2.keep b _ bp hb
      o_head ⟨tRaiseN, tAt, tTryN, eb, sp_next⟩
      refine ⟨f2.feed, by omega, by omega, fun r1 H3 a0 a1 f3 => ?_⟩
      have eb3 := (f2.trans f3).keep b _ bp hb
      o_head ⟨tRaiseN, tAt, tTryN, eb3⟩
      refine ⟨f3.feed, by omega, by omega, fun r2 H4 c0 c1 f4 => ⟨by decide, fun t5 h5 => ?_⟩⟩
      have f24 := f3.trans f4
      have eK4 := f24.keep D _ nD eK
      have f5 := (f2.trans f24).upd (o := .tup [.int (x + r1), .int (y + r2)]) h5
      refine ⟨kvs, upd_f h5 eK4, _, rfl, [Sum.inl (x + r1), Sum.inl (y + r2)], rfl, by omega, _, rfl, kn.put (by omega) (by omega) _, ?_, fun _ => ?_, f5.set hD nD⟩
      ·have := length_putK kvs [Sum.inl (x + r1), Sum.inl (y + r2)] (.bl true)
       omega
      ·exact (kn.1.put (x := x + r1) (y := y + r2) (by omega) (by omega) _).2
     ·rintro σ H2 ⟨o3, kvs, rfl, eK, kn, kl, k0, f2⟩
      exact ⟨o3, kvs, rfl, eK, kn, by omega, k0 (by omega), f2⟩
   ·rintro σ H1 ⟨o3, kvs, rfl, eK, kn, k4, k0, f1⟩
    refine ⟨fun σ H' => ∃ (l : Addr) (qs : List Addr) (rs : List P2), σ = [some (.ref p), some (.ref b), some (.ref D), o3, some (.ref l), none] ∧ H' l = some (.lst (qs.map V.ref)) ∧ R2At H' qs rs ∧ 0 < rs.length ∧ rs.length ≤ 4 ∧ Nigh rs ∧ l ≠ p ∧ FX p H H', ?_, ?_⟩
    ·o_head ⟨tRaiseN, tAt, tTryN, eK⟩
     refine ⟨kvs, rfl, fun l as hl' hlen hat => ?_⟩
     refine ⟨as, rfl, kvs.map kXY, ⟨by rw [List.length_map, hlen], fun i q r h1 h2 => ?_⟩, by rw [List.length_map]; exact k0, by rw [List.length_map]; exact k4, kn.2, f1.feed.ne hl', f1.upd hl'⟩
     rw [List.getElem?_map] at h2
     cases e : kvs[i]? with
     | none => rw [e] at h2; cases h2
     | some kv =>
      rw [e] at h2
      cases h2
      have := hat i q kv h1 e
      rw [kv_key kn.1 e] at this
      exact upd_f hl' this
    rintro σ H2 ⟨l, qs, rs, rfl, el, er, n0, n4, ng, lp, f2⟩
    have lq : (qs.map V.ref).length = rs.length := by rw [List.length_map, er.1]
    have qp : ∀ {H' : Hp} {q : Addr} {xs : List V}, Feed H' p → H' q = some (.tup xs) → q ≠ p := by
     intro H' q xs hf hq
     obtain ⟨a1, a2, a3, e⟩ := hf
     exact ne_of hq e (by intro z; cases z)
    have kpR : ∀ {H' : Hp}, FX p H2 H' → H' l = some (.lst (qs.map V.ref)) ∧ R2At H' qs rs := fun fx => ⟨fx.keep l _ lp el, ⟨er.1, fun i q r h1 h2 => fx.keep q _ (qp f2.feed (er.2 i q r h1 h2)) (er.2 i q r h1 h2)⟩⟩
    refine ⟨fun σ H' => ∃ w : Int, σ = [some (.ref p), some (.ref b), some (.ref D), o3, some (.ref l), some (.int w)] ∧ FX p H2 H', ?_, ?_⟩
    ·o_head ⟨tRaiseN, tAt, tTryN, sp_next⟩
     exact ⟨f2.feed, fun r H3 _ _ f3 => f3⟩
    rintro σ H3 ⟨w, rfl, f3⟩
    have f03 := f2.trans f3
    have eb := f03.keep b _ bp hb
    obtain ⟨el3, er3⟩ := kpR f3
    refine ⟨fun σ H' => σ = [some (.ref p), some (.ref b), some (.ref D), o3, some (.ref l), some (.int w)] ∧ H' = H3, ?_, ?_⟩
    ·o_head ⟨tRaiseN, tAt, tTryN⟩
     split
     ·refine ⟨by decide, fun l2 h2 => h l2 [] [] _ (f03.upd h2) upd_same ⟨rfl, fun i q r a => by simp at a⟩ (by decide) (fun r hr => by simp at hr) (f03.feed.ne h2)⟩
     ·first | trivial | rfl
    rintro σ H3 ⟨rfl, rfl⟩
    refine ⟨fun σ H' => σ = [some (.ref p), some (.ref b), some (.ref D), o3, some (.ref l), some (.int w)] ∧ H' = H3, ?_, ?_⟩
    ·o_head ⟨tRaiseN, tAt, tTryN⟩
     split
     ·skip
      have z := er3.rep 13
      have ss : 1000 ≤ sizeLine := by decide
      refine ⟨l, 13, _, rfl, rfl, el3, by decide, by decide, (by rw [lq]; show rs.length * 13 ≤ _; omega), fun l2 h2 => ?_⟩
      have rl : ((List.replicate 13 rs).flatten).length = 13 * rs.length := len_rep rs 13
      exact h l2 (List.replicate 13 qs).flatten (List.replicate 13 rs).flatten _ (f03.upd h2) (by rw [upd_same]; exact congrArg (fun z => some (HO.lst z)) (rep_map qs 13)) (z.ext (Ext.upd h2)) (by omega) (fun r hr => ng r (rep_mem hr)) (f03.feed.ne h2)
     ·first | trivial | rfl
    rintro σ H3 ⟨rfl, rfl⟩
    refine ⟨fun σ H' => σ = [some (.ref p), some (.ref b), some (.ref D), o3, some (.ref l), some (.int w)] ∧ H' = H3, ?_, ?_⟩
    ·o_head ⟨tRaiseN, tAt, tTryN, eb⟩
     split
     ·skip
      refine ⟨by decide, fun t1 h1 => ?_⟩
      have b1 := upd_f (o := .tup [.int x, .int y]) h1 eb
      o_head ⟨tRaiseN, tAt, tTryN, b1⟩
      refine ⟨by decide, fun t2 h2 => ?_⟩
      have b2 := upd_f (o := .tup [.int x, .int (y + 1)]) h2 b1
      o_head ⟨tRaiseN, tAt, tTryN, b2⟩
      refine ⟨by decide, fun t3 h3 => ⟨by decide, fun M1 h4 => ?_⟩⟩
      have b3 := upd_f (o := .lst [.ref t1, .ref t2, .ref t3]) h4 (upd_f (o := .tup [.int x, .int v]) h3 b2)
      o_head ⟨tRaiseN, tAt, tTryN, b3⟩
      refine ⟨by decide, fun t4 h5 => ⟨by decide, fun M2 h6 => ?_⟩⟩
      refine ⟨M2, 10, _, rfl, rfl, upd_same, by decide, by decide, (show 10 ≤ sizeLine by decide), fun M3 h7 => ?_⟩
      rw [show (List.replicate (10 : Int).toNat [V.ref t4]).flatten = [V.ref t4, V.ref t4, V.ref t4, V.ref t4, V.ref t4, V.ref t4, V.ref t4, V.ref t4, V.ref t4, V.ref t4] from rfl]
      have eM1 := upd_f (o := .lst [V.ref t4, V.ref t4, V.ref t4, V.ref t4, V.ref t4, V.ref t4, V.ref t4, V.ref t4, V.ref t4, V.ref t4]) h7 (upd_f (o := .lst [.ref t4]) h6 (upd_f (o := .tup [.int u, .int y]) h5 (upd_same (H := upd (upd (upd H3 t1 (.tup [.int x, .int y])) t2 (.tup [.int x, .int (y + 1)])) t3 (.tup [.int x, .int v])) (a := M1) (o := .lst [.ref t1, .ref t2, .ref t3]))))
      o_head ⟨tRaiseN, tAt, tTryN, eM1⟩
      refine fun l9 h9 => ?_
      have q1 := upd_f (o := .lst [V.ref t1, V.ref t2, V.ref t3, V.ref t4, V.ref t4, V.ref t4, V.ref t4, V.ref t4, V.ref t4, V.ref t4, V.ref t4, V.ref t4, V.ref t4]) h9 (upd_f h7 (upd_f h6 (upd_f h5 (upd_f h4 (upd_f h3 (upd_f h2 (upd_same (H := H3) (a := t1) (o := .tup [.int x, .int y]))))))))
      have q2 := upd_f (o := .lst [V.ref t1, V.ref t2, V.ref t3, V.ref t4, V.ref t4, V.ref t4, V.ref t4, V.ref t4, V.ref t4, V.ref t4, V.ref t4, V.ref t4, V.ref t4]) h9 (upd_f h7 (upd_f h6 (upd_f h5 (upd_f h4 (upd_f h3 (upd_same (H := upd H3 t1 (.tup [.int x, .int y])) (a := t2) (o := .tup [.int x, .int (y + 1)])))))))
      have q3 := upd_f (o := .lst [V.ref t1, V.ref t2, V.ref t3, V.ref t4, V.ref t4, V.ref t4, V.ref t4, V.ref t4, V.ref t4, V.ref t4, V.ref t4, V.ref t4, V.ref t4]) h9 (upd_f h7 (upd_f h6 (upd_f h5 (upd_f h4 (upd_same (H := upd (upd H3 t1 (.tup [.int x, .int y])) t2 (.tup [.int x, .int (y + 1)])) (a := t3) (o := .tup [.int x, .int v]))))))
      have q4 := upd_f (o := .lst [V.ref t1, V.ref t2, V.ref t3, V.ref t4, V.ref t4, V.ref t4, V.ref t4, V.ref t4, V.ref t4, V.ref t4, V.ref t4, V.ref t4, V.ref t4]) h9 (upd_f h7 (upd_f h6 (upd_same (a := t4) (o := .tup [.int u, .int y]))))
      refine h l9 [t1, t2, t3, t4, t4, t4, t4, t4, t4, t4, t4, t4, t4] [(x, y), (x, y + 1), (x, v), (u, y), (u, y), (u, y), (u, y), (u, y), (u, y), (u, y), (u, y), (u, y), (u, y)] _ (((((((((f03.upd h1).upd h2).upd h3).upd h4).upd h5).upd h6).upd h7)).upd h9) (by rw [upd_same]; rfl) (.cons q1 (.cons q2 (.cons q3 (.cons q4 (.cons q4 (.cons q4 (.cons q4 (.cons q4 (.cons q4 (.cons q4 (.cons q4 (.cons q4 (.cons q4 .nil))))))))))))) (show 13 ≤ 200 by decide) ?_ ?_
      ·intro r hr
       simp only [List.mem_cons, List.not_mem_nil, or_false] at hr
       rcases hr with rfl | rfl | rfl | rfl | rfl | rfl | rfl | rfl | rfl | rfl | rfl | rfl | rfl <;> (dsimp only; omega)
      ·exact ((((((((f03.upd h1).upd h2).upd h3).upd h4).upd h5).upd h6).upd h7)).feed.ne h9
     ·first | trivial | rfl
    rintro σ H3 ⟨rfl, rfl⟩
    refine ⟨fun σ H' => σ = [some (.ref p), some (.ref b), some (.ref D), o3, some (.ref l), some (.int w)] ∧ H' = H3, ?_, ?_⟩
    ·o_head ⟨tRaiseN, tAt, tTryN, eb, el3, sp_next⟩
     split
     ·skip
      refine ⟨f03.feed, fun r H4 r0 r1 f4 => ?_⟩
      have eb4 := (f03.trans f4).keep b _ bp hb
      o_head ⟨tRaiseN, tAt, tTryN, eb4⟩
      refine ⟨by decide, fun t1 h1 => ⟨by decide, fun L1 h2 => ?_⟩⟩
      obtain ⟨el4, er4⟩ := kpR (f3.trans f4)
      have e5 := upd_f (o := .lst [.ref t1]) h2 (upd_f (o := .tup [.int (u + 1 + r), .int v]) h1 el4)
      o_head ⟨tRaiseN, tAt, tTryN, e5, lq⟩
      refine ⟨by omega, fun l9 h9 => ?_⟩
      have f9 := ((f03.trans f4).upd (o := .tup [.int (u + 1 + r), .int v]) h1).upd (o := .lst [.ref t1]) h2
      have xx := ((Ext.upd (o := .tup [.int (u + 1 + r), .int v]) h1).then (o := .lst [.ref t1]) h2).then (o := .lst (qs.map V.ref ++ [.ref t1])) h9
      exact h l9 (qs ++ [t1]) (rs ++ [(u + 1 + r, v)]) _ (f9.upd h9) (by rw [upd_same, List.map_append]; rfl) ((er4.ext xx).app (.cons (upd_f h9 (upd_f h2 upd_same)) .nil)) (by rw [List.length_append]; show _ + 1 ≤ _; omega) (ng.app (.one (by omega) (by omega))) (f9.feed.ne h9)
     ·first | trivial | rfl
    rintro σ H3 ⟨rfl, rfl⟩
    refine ⟨fun σ H' => σ = [some (.ref p), some (.ref b), some (.ref D), o3, some (.ref l), some (.int w)] ∧ H' = H3, ?_, ?_⟩
    ·o_head ⟨tRaiseN, tAt, tTryN, eb, el3, sp_next⟩
     split
     ·skip
      rw [lq]
      refine ⟨f03.feed, by omega, by omega, fun r H4 r0 r1 f4 => ?_⟩
      obtain ⟨el4, er4⟩ := kpR (f3.trans f4)
      obtain ⟨q, hq⟩ : ∃ q, qs[r.toNat]? = some q := ⟨_, List.getElem?_eq_getElem (by rw [er.1]; omega)⟩
      obtain ⟨z, hz1, hz2⟩ := er4.at hq
      have ai : atI (qs.map V.ref) r = some (.ref q) := by
       have := atI_nat (xs := qs.map V.ref) (j := r.toNat) (v := .ref q) (by rw [List.getElem?_map, hq]; rfl)
       rwa [Int.toNat_of_nonneg r0] at this
      o_head ⟨tRaiseN, tAt, tTryN, el4, ai⟩
      refine ⟨by decide, fun L1 h2 => ?_⟩
      have e5 := upd_f (o := .lst [.ref q]) h2 el4
      o_head ⟨tRaiseN, tAt, tTryN, e5, lq⟩
      refine ⟨by omega, fun l9 h9 => ?_⟩
      have f9 := (f03.trans f4).upd (o := .lst [.ref q]) h2
      have xx := (Ext.upd (o := .lst [.ref q]) h2).then (o := .lst (qs.map V.ref ++ [.ref q])) h9
      exact h l9 (qs ++ [q]) (rs ++ [z]) _ (f9.upd h9) (by rw [upd_same, List.map_append]; rfl) ((er4.ext xx).app (.cons (xx _ _ hz2) .nil)) (by rw [List.length_append]; show _ + 1 ≤ _; omega) (ng.app fun w hw => by rw [List.mem_singleton.mp hw]; exact ng z (List.mem_of_getElem? hz1)) (f9.feed.ne h9)
     ·first | trivial | rfl
    rintro σ H3 ⟨rfl, rfl⟩
    o_head ⟨tRaiseN, tAt, tTryN⟩
    exact h l qs rs _ f03 el3 er3 (by omega) ng lp
end
end LW
namespace LW
open PySem L2 MA PyProof.Rows MC
section
variable {P : Program} {w : World} {K : PySem.W.Frag} {mg : Str → Option Value} {base : Heap}
theorem sc__law_full : FnScope ["_law_feed_here", "_law_box", "_law_found", "_law_k"] ["_law_feed_here", "_law_box"] (defScope s__law_full) := ⟨rfl, rfl, rfl, by decide +kernel, rfl, by decide +kernel, by decide +kernel⟩
set_option maxHeartbeats 0 in
theorem ok__law_full {C : Cz} {f : Addr} {fd : FuncData} (F : Fun K "_law_full" "_law_full" s__law_full f fd) (T : Txt P K mg C) (F__law_next : FnB P w K mg base (CXE P w) 1 "_law_next" ["_law_feed_here", "_law_many"] sp_next) : FnOk P w K mg base (CXE P w) 2 f fd ["_law_feed_here", "_law_box"] (sp_full K) := by
 refine okN F (k := 1) sc__law_full (fun vs H Q E h => ?_) (fun cdv A outer s H vs Q E hr h => ?_)
 ·obtain ⟨p, b, x, y, u, v, rfl, _⟩ := h
  rfl
 ·obtain ⟨p, b, x, y, u, v, rfl, h⟩ := h
  refine' ⟨_, ?main, ?rest⟩
  case main =>
   refine' pss_cons ?c1 ?c2
   case' c1 => exact (ps_set (i := 2) sc__law_full.nd rfl (Or.inl rfl) pe_dnewT)
   case' c2 => refine' pss_cut ?c3 ?c4
   case' c3 => refine' ps_for ?c5 ?c6 ?c7 ?c8 ?c9
   case c5 => exact PassesOwn.never
   case c6 => exact rfl
   case' c7 => refine' pi_range1 rfl T.b_range ?c10
   case' c10 => refine' pa_cons ?c11 pa_nil
   case' c11 => refine' pe_op (OpR.f0 op_add) pe_int ?c12
   case' c12 => refine' pe_fn F__law_next (hr.mono (by decide)) rfl passE0 ?c13
   case' c13 => refine' pa_cons (pvF 0) ?c14
   case' c14 => exact (pa_cons pe_int pa_nil)
   case c8 => exact (pg_name (i := 3) sc__law_full.nd rfl (Or.inl rfl))
   case' c9 => refine' pss_one ?c15
   case' c15 => refine' ps_dpT ?c16 ?c17 ?c18 ?c19 ?c20
   case c16 => exact (hu_of hr)
   case c17 => exact (pvF 2)
   case' c18 => refine' pe_tup ?c21
   case' c21 => refine' pa_cons ?c22 ?c23
   case' c22 => refine' pe_op (OpR.f0 op_add) ?c24 ?c25
   case' c24 => exact (pe_ix ix_F (pvF 1) pe_int (fun _ _ => rfl))
   case' c25 => exact (pe_op (OpR.f op_fdivB) (pvF 3) pe_int)
   case' c23 => refine' pa_cons ?c26 pa_nil
   case' c26 => refine' pe_op (OpR.f0 op_add) ?c27 ?c28
   case' c27 => exact (pe_ix ix_F (pvF 1) pe_int (fun _ _ => rfl))
   case' c28 => exact (pe_op (OpR.f op_mod) (pvF 3) pe_int)
   case c19 => exact pe_bl
   case c20 => exact rfl
   case' c4 => refine' pss_one ?c29
   case' c29 => refine' ps_ret ?c30
   case' c30 => refine' pe_callTy (call_listD rfl) (by rfl) T.b_list boot_list ?c31
   case' c31 => exact (pa_cons (pvF 2) pa_nil)
  case rest =>
   obtain ⟨hF, hb, bi, h⟩ := h
   have bp : b ≠ p := by
    obtain ⟨a1, a2, a3, e⟩ := hF
    exact ne_of hb e (by intro z; cases z)
   have x0 := bi.x0
   have y0 := bi.y0
   simp only [L2.start, List.map_cons, List.map_nil, List.length_cons, List.length_nil, Nat.reduceAdd, Nat.reduceSub, List.replicate_succ, List.replicate_zero, List.cons_append, List.nil_append, List.append_nil]
   o_head ⟨tRaiseN, tAt, tTryN⟩
   intro D hD
   have nD := hF.ne hD
   refine ⟨fun σ H' => ∃ (o3 : Option V) (kvs : List (List Key × V)), σ = [some (.ref p), some (.ref b), some (.ref D), o3] ∧ H' D = some (.dT kvs) ∧ KvN kvs ∧ kvs.length ≤ 12 ∧ FX p H H', ?_, ?_⟩
   ·have fD := (FX.refl hF).upd (o := .dT []) hD
    refine tfor_rangeH (fun n H' => 9 ≤ n ∧ n ≤ 12 ∧ H' D = some (.dT []) ∧ FX p H H') ?_ ?_
    ·intro R hR
     o_head ⟨tRaiseN, tAt, tTryN, sp_next⟩
     refine ⟨fD.feed, fun r H1 r0 r1 f1 => ?_⟩
     have e : (9 : Int) + r = ((9 + r.toNat : Nat) : Int) := by omega
     rw [e]
     exact hR _ _ ⟨by omega, by omega, f1.keep D _ nD upd_same, fD.trans f1⟩
    ·rintro n H1 ⟨n1, n4, eD, f1⟩
     refine ⟨by omega, fun i σ H' => ∃ (o3 : Option V) (kvs : List (List Key × V)), σ = [some (.ref p), some (.ref b), some (.ref D), o3] ∧ H' D = some (.dT kvs) ∧ KvN kvs ∧ kvs.length ≤ i ∧ FX p H H', ⟨_, [], rfl, eD, ⟨⟨List.nodup_nil, fun kv hk => absurd hk List.not_mem_nil⟩, fun r hr => by simp at hr⟩, Nat.le_refl _, f1⟩, ?_, ?_⟩
     ·rintro i σ H2 hi ⟨o3, kvs, rfl, eK, kn, kl, f2⟩
      have eb := f2.keep b _ bp hb
      have fd : ∀ n : Int, n.fdiv 4 = n / 4 := fun n => Int.fdiv_eq_ediv_of_nonneg n (by decide)
      o_head ⟨tRaiseN, tAt, tTryN, eb, Int.zero_add, fd⟩
      refine ⟨by decide, fun t5 h5 => ⟨kvs, upd_f h5 eK, _, rfl, [Sum.inl (x + (i : Int) / 4), Sum.inl (y + (i : Int) % 4)], rfl, by omega, _, rfl, kn.put (by omega) (by omega) _, ?_, (f2.upd h5).set hD nD⟩⟩
      have := length_putK kvs [Sum.inl (x + (i : Int) / 4), Sum.inl (y + (i : Int) % 4)] (.bl true)
      omega
     ·rintro σ H2 ⟨o3, kvs, rfl, eK, kn, kl, f2⟩
      exact ⟨o3, kvs, rfl, eK, kn, by omega, f2⟩
   ·rintro σ H1 ⟨o3, kvs, rfl, eK, kn, k4, f1⟩
    o_head ⟨tRaiseN, tAt, tTryN, eK⟩
    refine ⟨kvs, rfl, fun l as hl' hlen hat => ?_⟩
    refine h l as (kvs.map kXY) _ (f1.upd hl') upd_same ⟨by rw [List.length_map, hlen], fun i q r h1 h2 => ?_⟩ (by rw [List.length_map]; omega) kn.2 (f1.feed.ne hl')
    rw [List.getElem?_map] at h2
    cases e : kvs[i]? with
    | none => rw [e] at h2; cases h2
    | some kv =>
     rw [e] at h2
     cases h2
     have := hat i q kv h1 e
     rw [kv_key kn.1 e] at this
     exact upd_f hl' this
end
end LW
namespace LW
open PySem L2 MA PyProof.Rows MC
section
variable {P : Program} {w : World} {K : PySem.W.Frag} {mg : Str → Option Value} {base : Heap}
theorem sc__law_due : FnScope ["_law_box", "_law_spots_here", "_law_spot", "_law_some", "_law_at", "_law_one"] ["_law_box", "_law_spots_here", "_law_spot"] (defScope s__law_due) := ⟨rfl, rfl, rfl, by decide +kernel, rfl, by decide +kernel, by decide +kernel⟩
set_option maxHeartbeats 0 in
theorem ok__law_due {C : Cz} {f : Addr} {fd : FuncData} (F : Fun K "_law_due" "_law_due" s__law_due f fd) (T : Txt P K mg C)  : FnOk P w K mg base (CXE P w) 1 f fd ["_law_box", "_law_spots_here", "_law_spot"] (sp_due K) := by
 refine okN F (k := 0) sc__law_due (fun vs H Q E h => ?_) (fun cdv A outer s H vs Q E hr h => ?_)
 ·obtain ⟨b, l, t, x, y, u, v, qs, rs, s, rfl, _⟩ := h
  rfl
 ·obtain ⟨b, l, t, x, y, u, v, qs, rs, s, rfl, h⟩ := h
  refine' ⟨_, ?main, ?rest⟩
  case main =>
   refine' pss_cut ?c1 ?c2
   case' c1 => refine' ps_if ?c3 ?c4 ?c5
   case' c3 => refine' PW.pt ?c6
   case' c6 => refine' pw_or ?c7 ?c8
   case' c7 => refine' pt_cmpF (OpR.f0 op_ge) ?c9 ?c10 (nomark _)
   case' c9 => exact (pe_ix ix_F (pvF 0) pe_int (fun _ _ => rfl))
   case' c10 => exact (pe_ix ix_F (pvF 0) pe_int (fun _ _ => rfl))
   case' c8 => refine' pw_or1 ?c11
   case' c11 => refine' pt_cmpF (OpR.f0 op_ge) ?c12 ?c13 (nomark _)
   case' c12 => exact (pe_ix ix_F (pvF 0) pe_int (fun _ _ => rfl))
   case' c13 => exact (pe_ix ix_F (pvF 0) pe_int (fun _ _ => rfl))
   case' c4 => refine' pss_one ?c14
   case' c14 => refine' ps_ret ?c15
   case' c15 => refine' pe_tup ?c16
   case' c16 => refine' pa_cons pe_str ?c17
   case' c17 => exact (pa_cons pe_non pa_nil)
   case c5 => exact pss_nil
   case' c2 => refine' pss_cut ?c18 ?c19
   case' c18 => refine' ps_for ?c20 ?c21 ?c22 ?c23 ?c24
   case c20 => exact PassesOwn.never
   case c21 => exact rfl
   case' c22 => refine' pi_listK (K := K) rfl ?c25
   case' c25 => refine' PE.up ?c26
   case' c26 => refine' pe_lst ?c27
   case' c27 => refine' pa_cons (pvF 1) ?c28
   case' c28 => refine' pa_cons ?c29 pa_nil
   case' c29 => refine' pe_op op_catF (pvF 1) ?c30
   case' c30 => refine' pe_lst ?c31
   case' c31 => exact (pa_cons (pvF 2) pa_nil)
   case c23 => exact (pg_name (i := 3) sc__law_due.nd rfl (Or.inl rfl))
   case' c24 => refine' pss_cut ?c32 ?c33
   case' c32 => refine' ps_if ?c34 ?c35 ?c36
   case' c34 => refine' PW.pt ?c37
   case' c37 => refine' pw_or ?c38 ?c39
   case' c38 => refine' pt_cmpF op_eqI ?c40 pe_int (nomark _)
   case' c40 => refine' pe_callB call_lenF (by rfl) T.b_len PySem.boot_len ?c41
   case' c41 => exact (pa_cons (pvF 3) pa_nil)
   case' c39 => refine' pw_or1 ?c42
   case' c42 => refine' pt_cmpF (OpR.f0 op_gt) ?c43 pe_int (nomark _)
   case' c43 => refine' pe_callB call_lenF (by rfl) T.b_len PySem.boot_len ?c44
   case' c44 => exact (pa_cons (pvF 3) pa_nil)
   case' c35 => refine' pss_one ?c45
   case' c45 => refine' ps_ret ?c46
   case' c46 => refine' pe_tup ?c47
   case' c47 => refine' pa_cons pe_str ?c48
   case' c48 => exact (pa_cons pe_non pa_nil)
   case c36 => exact pss_nil
   case' c33 => refine' pss_one ?c49
   case' c49 => refine' ps_for ?c50 ?c51 ?c52 ?c53 ?c54
   case c50 => exact PassesOwn.never
   case c51 => exact rfl
   case' c52 => refine' pi_enum (K := K) rfl rfl T.b_enumerate ?c55
   case' c55 => exact (pa_cons (pvF 3) pa_nil)
   case' c53 => refine' pg_F (n := 2) rfl ?c56
   case' c56 => refine' pgs_consF (pg_name (i := 4) sc__law_due.nd rfl (Or.inl rfl)) ?c57
   case' c57 => exact (pgs_consF (pg_name (i := 5) sc__law_due.nd rfl (Or.inl rfl)) pgs_nilF)
   case' c54 => refine' pss_one ?c58
   case' c58 => refine' ps_if ?c59 ?c60 ?c61
   case' c59 => refine' PW.pt ?c62
   case' c62 => refine' pw_or ?c63 ?c64
   case' c63 => refine' pt_not ?c65
   case' c65 => refine' pt_chain (OpR.f0 op_le) (OpR.f0 op_le) ?c66 ?c67 ?c68
   case' c66 => exact (pe_ix ix_F (pvF 0) pe_int (fun _ _ => rfl))
   case' c67 => exact (pe_ix ix_F (pvF 5) pe_int (fun _ _ => rfl))
   case' c68 => exact (pe_ix ix_F (pvF 0) pe_int (fun _ _ => rfl))
   case' c64 => refine' pw_or ?c69 ?c70
   case' c69 => refine' pt_not ?c71
   case' c71 => refine' pt_chain (OpR.f0 op_le) (OpR.f0 op_le) ?c72 ?c73 ?c74
   case' c72 => exact (pe_ix ix_F (pvF 0) pe_int (fun _ _ => rfl))
   case' c73 => exact (pe_ix ix_F (pvF 5) pe_int (fun _ _ => rfl))
   case' c74 => exact (pe_ix ix_F (pvF 0) pe_int (fun _ _ => rfl))
   case' c70 => refine' pw_or1 ?c75
   case' c75 => refine' pt_cmpF (op_inDK (K := K) rfl (hu65 hr)) (pvF 5) ?c76 (by with_unfolding_all rfl)
   case' c76 => exact (pe_slice sl_F (pvF 3) po_none (po_some (pvF 4)))
   case' c60 => refine' pss_one ?c77
   case' c77 => refine' ps_ret ?c78
   case' c78 => refine' pe_tup ?c79
   case' c79 => refine' pa_cons pe_str ?c80
   case' c80 => exact (pa_cons (pvF 4) pa_nil)
   case c61 => exact pss_nil
   case' c19 => refine' pss_one ?c81
   case' c81 => refine' ps_ret ?c82
   case' c82 => refine' pe_tup ?c83
   case' c83 => refine' pa_cons pe_str ?c84
   case' c84 => exact (pa_cons pe_non pa_nil)
  case rest =>
   obtain ⟨bo, hts, few, h⟩ := h
   have lq : (qs.map V.ref).length = rs.length := by rw [List.length_map]; exact bo.at_.1
   simp only [L2.start, List.map_cons, List.map_nil, List.length_cons, List.length_nil, Nat.reduceAdd, Nat.reduceSub, List.replicate_succ, List.replicate_zero, List.cons_append, List.nil_append, List.append_nil]
   refine ⟨fun σ H' => σ = [some (.ref b), some (.ref l), some (.ref t), none, none, none] ∧ H' = H ∧ (x < u ∧ y < v), ?_, ?_⟩
   ·o_head ⟨tRaiseN, tAt, tTryN, bo.bx⟩
    split
    ·exact ⟨by decide, fun p hp => h .box p _ (fun z => by omega) (.upd hp) upd_same⟩
    ·split
     ·exact ⟨by decide, fun p hp => h .box p _ (fun z => by omega) (.upd hp) upd_same⟩
     ·exact ⟨by omega, by omega⟩
   rintro σ H0 ⟨rfl, rfl, hbx⟩
   refine ⟨fun σ H' => ∃ o3 o4 o5 : Option V, σ = [some (.ref b), some (.ref l), some (.ref t), o3, o4, o5] ∧ Ext H0 H' ∧ IsVt x y u v rs s .fine, ?_, ?_⟩
   rotate_left
   ·rintro σ H1 ⟨o3, o4, o5, rfl, x1, hv⟩
    o_head ⟨tRaiseN, tAt, tTryN⟩
    exact ⟨by decide, fun p hp => h .fine p _ hv (x1.then hp) upd_same⟩
   refine tfor_list_up (fun w H' => ∃ (L M : Addr), w = .ref L ∧ Ext H0 H' ∧ H' L = some (.lst [.ref l, .ref M]) ∧ H' M = some (.lst ((qs ++ [t]).map V.ref))) ?_ ?_
   ·o_head ⟨tRaiseN, tAt, tTryN, bo.sp⟩
    refine ⟨by decide, fun p1 h1 => ?_⟩
    o_head ⟨tRaiseN, tAt, tTryN, upd_f h1 bo.sp⟩
    refine ⟨by rw [lq]; show _ + 1 < _; omega, fun p2 h2 => ⟨by decide, fun p3 h3 => ?_⟩⟩
    exact ⟨((Ext.upd h1).then h2).then h3, p2, rfl, by rw [upd_f h3 upd_same, List.map_append]; rfl⟩
   rintro w H1 ⟨L, M, rfl, x1, eL, eM⟩
   refine ⟨L, [.ref l, .ref M], rfl, fun k σ H' => ∃ o3 o4 o5 : Option V, σ = [some (.ref b), some (.ref l), some (.ref t), o3, o4, o5] ∧ Ext H1 H' ∧ (1 ≤ k → cnt rs ∧ AllOk x y u v rs) ∧ (2 ≤ k → cnt (rs ++ [s]) ∧ AllOk x y u v (rs ++ [s])), ⟨_, _, _, rfl, .refl _, fun z => by omega, fun z => by omega⟩, ?_, ?_, ?_⟩
   ·rintro k σ H2 _ ⟨o3, o4, o5, rfl, x2, _⟩
    exact SqL.of (x2 _ _ eL)
   rotate_left
   ·rintro σ H2 ⟨o3, o4, o5, rfl, x2, k1, k2⟩
    obtain ⟨c1, a1⟩ := k1 (show 1 ≤ 2 by decide)
    obtain ⟨c2, a2⟩ := k2 (show 2 ≤ 2 by decide)
    exact ⟨o3, o4, o5, rfl, x1.trans x2, hbx, c1, a1, c2, a2⟩
   rintro k w1 σ H2 hk ⟨o3, o4, o5, rfl, x2, k1, k2⟩
   have x12 := x1.trans x2
   obtain ⟨L', qs', rs', rfl, eL', r2', lf, hMany, hSpot, hNext⟩ : ∃ (L' : Addr) (qs' : List Addr) (rs' : List P2), w1 = .ref L' ∧ H2 L' = some (.lst (qs'.map V.ref)) ∧ R2At H2 qs' rs' ∧ rs'.length < 95000 ∧ (¬ cnt rs' → IsVt x y u v rs s .many) ∧ (∀ i, cnt rs' → FirstBad x y u v rs' i → IsVt x y u v rs s (.spot i)) ∧
     (cnt rs' → AllOk x y u v rs' → (1 ≤ k + 1 → cnt rs ∧ AllOk x y u v rs) ∧ (2 ≤ k + 1 → cnt (rs ++ [s]) ∧ AllOk x y u v (rs ++ [s]))) := by
    match k, hk with
    | 0, hk =>
     cases hk
     exact ⟨l, qs, rs, rfl, x12 _ _ bo.sp, bo.at_.ext x12, by omega, fun z => ⟨hbx, .inl z⟩, fun i c f => ⟨hbx, c, .inl f⟩, fun c a => ⟨fun _ => ⟨c, a⟩, fun z => by omega⟩⟩
    | 1, hk =>
     cases hk
     obtain ⟨c1, a1⟩ := k1 (by decide)
     exact ⟨M, qs ++ [t], rs ++ [s], rfl, x2 _ _ eM, (bo.at_.ext x12).snoc (x12 _ _ hts), by rw [List.length_append, List.length_singleton]; omega, fun z => ⟨hbx, .inr ⟨c1, a1, z⟩⟩, fun i c f => ⟨hbx, c1, .inr ⟨a1, c, f⟩⟩, fun c a => ⟨fun _ => ⟨c1, a1⟩, fun _ => ⟨c, a⟩⟩⟩
    | k + 2, hk => simp at hk
   have lq' : (qs'.map V.ref).length = rs'.length := by rw [List.length_map]; exact r2'.1
   have eb := x12 _ _ bo.bx
   o_head ⟨tRaiseN, tAt, tTryN⟩
   refine ⟨fun σ H' => σ = [some (.ref b), some (.ref l), some (.ref t), some (.ref L'), o4, o5] ∧ H' = H2 ∧ cnt rs', ?_, ?_⟩
   ·o_head ⟨tRaiseN, tAt, tTryN, eL', lq'⟩
    split
    ·exact ⟨by decide, fun p hp => h .many p _ (hMany fun z => by have := z.1; omega) (x12.then hp) upd_same⟩
    ·split
     ·exact ⟨by decide, fun p hp => h .many p _ (hMany fun z => by have := z.2; omega) (x12.then hp) upd_same⟩
     ·exact ⟨by omega, by omega⟩
   rintro σ H3 ⟨rfl, rfl, hc⟩
   refine tfor_enum (fun a' H' => a' = L' ∧ H' = H3) ?_ ?_
   ·intro R hR
    o_head ⟨tRaiseN, tAt, tTryN⟩
    exact hR _ _ ⟨rfl, rfl⟩
   ·rintro _ _ ⟨rfl, rfl⟩
    refine ⟨qs'.map V.ref, fun i σ H' => ∃ o4 o5 : Option V, σ = [some (.ref b), some (.ref l), some (.ref t), some (.ref _), o4, o5] ∧ Ext _ H' ∧ ∀ j, j < i → ¬ BadAt x y u v rs' j, ⟨_, _, rfl, .refl _, fun j hj => absurd hj (Nat.not_lt_zero _)⟩, ?_, ?_, ?_⟩
    ·rintro i σ H4 _ ⟨o4, o5, rfl, x4, _⟩
     exact SqL.of (x4 _ _ eL')
    ·rintro i w1 t5 σ H4 hi ⟨o4, o5, rfl, x4, nb⟩ ht
     obtain ⟨q, hq, rfl⟩ := refs_get hi
     obtain ⟨r, hr1, hr2⟩ := r2'.at hq
     have xt := x4.then (o := .tup [.int (i : Int), .ref q]) ht
     have et := upd_same (H := H4) (a := t5) (o := .tup [.int (i : Int), .ref q])
     generalize upd H4 t5 (.tup [.int (i : Int), .ref q]) = H5 at xt et ⊢
     o_head ⟨tRaiseN, tAt, tTryN, gSeqF, gCons, gNil, et, xt _ _ eb, xt _ _ hr2, xt _ _ eL', tChain⟩
     have sp : ∀ (H6 : Hp), Ext H5 H6 → BadAt x y u v rs' i → (2 ≤ sizeLine ∧ ∀ p, H6 p = none → Q (.ref p) (upd H6 p (.tup [.str "spot", .int (i : Int)]))) := fun H6 x6 bad => ⟨by decide, fun p hp => h (.spot i) p _ (hSpot i hc ⟨bad, nb⟩) ((x12.trans (xt.trans x6)).then hp) upd_same⟩
     by_cases hin : isIn x y u v r
     ·obtain ⟨i1, i2, i3, i4⟩ := id hin
      rw [if_pos i1, if_neg (fun z => z i2), if_pos i3, if_neg (fun z => z i4), cut_to]
      refine fun s1 h1 => ?_
      have x6 := xt.then (o := .lst ((qs'.map V.ref).take i)) h1
      refine ⟨t2d r, (rs'.take i).map t2d, rdy_t2 (x6 _ _ hr2), .lst (xs := (qs'.take i).map V.ref) (SqL.of ?_) (rdy_rs ((r2'.ext x6).take i)), shaped_t2 r, shaped_rs _, ?_, ?_⟩
      ·rw [upd_same, List.map_take]
      ·intro y hy
       obtain ⟨z', _, rfl⟩ := List.mem_map.mp hy
       exact nomix_t2 z' r
      ·rw [mem_before]
       by_cases hm : r ∈ rs'.take i
       ·rw [decide_eq_true hm]
        o_head ⟨tRaiseN, tAt, tTryN⟩
        exact sp _ (.upd h1) ⟨r, hr1, .inr hm⟩
       ·rw [decide_eq_false hm]
        o_head ⟨tRaiseN, tAt, tTryN⟩
        refine ⟨x6, fun j hj => ?_⟩
        by_cases e : j = i
        ·subst e
         rintro ⟨r', h1', q | q⟩
         ·rw [hr1] at h1'; cases h1'; exact q hin
         ·rw [hr1] at h1'; cases h1'; exact hm q
        ·exact nb j (by omega)
     ·have z := sp H5 (.refl _) ⟨r, hr1, .inl hin⟩
      by_cases i1 : x ≤ r.1
      ·rw [if_pos i1]
       by_cases i2 : r.1 ≤ u
       ·rw [if_neg (fun z => z i2)]
        by_cases i3 : y ≤ r.2
        ·rw [if_pos i3]
         by_cases i4 : r.2 ≤ v
         ·exact absurd ⟨i1, i2, i3, i4⟩ hin
         ·rw [if_pos i4]; exact z
        ·rw [if_neg i3]; exact z
       ·rw [if_pos i2]; exact z
      ·rw [if_neg i1]; exact z
    ·rintro σ H4 ⟨o4, o5, rfl, x4, nb⟩
     rw [lq'] at nb
     have ao : AllOk x y u v rs' := fun j z => by
      obtain ⟨r, h1, _⟩ := id z
      exact nb j (List.getElem?_eq_some_iff.mp h1).1 z
     obtain ⟨n1, n2⟩ := hNext hc ao
     first
      | exact ⟨⟨_, _, _, rfl⟩, x2.trans x4, n1, n2⟩
      | exact ⟨_, _, _, rfl, x2.trans x4, n1, n2⟩
      | exact ⟨x2.trans x4, n1, n2⟩
      | exact ⟨x2.trans x4, (n1 (by omega)).1, (n1 (by omega)).2, n2⟩
end
end LW
namespace LW
open PySem L2 MA PyProof.Rows MC
section
variable {P : Program} {w : World} {K : PySem.W.Frag} {mg : Str → Option Value} {base : Heap}
theorem sc__law_told : FnScope ["_law_box", "_law_spots_here", "_law_spot", "_law_caught", "e", "_law_kinds"] ["_law_box", "_law_spots_here", "_law_spot"] (defScope s__law_told) := ⟨rfl, rfl, rfl, by decide +kernel, rfl, by decide +kernel, by decide +kernel⟩
set_option maxHeartbeats 0 in
theorem ok__law_told {C : Cz} {f : Addr} {fd : FuncData} (F : Fun K "_law_told" "_law_told" s__law_told f fd) (T : Txt P K mg C) (F_takes : FnB P w K mg base (CXE P w) 9 "takes" ["box", "spots", "spot"] (sp_takesE K C)) : FnOk P w K mg base (CXE P w) 10 f fd ["_law_box", "_law_spots_here", "_law_spot"] (sp_told K) := by
 refine okN F (k := 9) sc__law_told (fun vs H Q E h => ?_) (fun cdv A outer s H vs Q E hr h => ?_)
 ·obtain ⟨b, l, t, x, y, u, v, qs, rs, s, rfl, _⟩ := h
  rfl
 ·obtain ⟨b, l, t, x, y, u, v, qs, rs, s, rfl, h⟩ := h
  refine' ⟨_, ?main, ?rest⟩
  case main =>
   refine' pss_cons ?c1 ?c2
   case' c1 => exact (ps_set (i := 3) sc__law_told.nd rfl (Or.inl rfl) pe_non)
   case' c2 => refine' pss_cut ?c3 ?c4
   case' c3 => refine' ps_try (K := K) (cD := C.LandError) (i := 4) ?c5 ?c6 ?c7 ?c8 ?c9 ?c10 ?c11 ?c12 ?c13 ?c14
   case c5 => exact rfl
   case' c6 => exact (fun pn W E1 σ0 hx => (pss_one (ps_expr (pe_fnS F_takes (hr.mono (by decide)) rfl hx (pa_cons (pvF 0) (pa_cons (pvF 1) (pa_cons (pvF 2) pa_nil)))))))
   case' c7 => exact (fun ev => (pss_one (ps_set (i := 3) sc__law_told.nd rfl (Or.inl rfl) (pvF 4))))
   case c8 => exact rfl
   case c9 => exact rfl
   case c10 => exact sc__law_told.nd
   case c11 => exact rfl
   case c12 => exact rfl
   case c13 => exact rfl
   case c14 => exact T.g_LandError
   case' c4 => refine' pss_cons ?c15 ?c16
   case' c15 => refine' ps_if ?c17 ?c18 ?c19
   case' c17 => exact (pt_cmp (pc_isN (pvF 3)))
   case' c18 => refine' pss_one ?c20
   case' c20 => refine' ps_ret ?c21
   case' c21 => refine' pe_tup ?c22
   case' c22 => refine' pa_cons pe_str ?c23
   case' c23 => exact (pa_cons pe_non pa_nil)
   case c19 => exact pss_nil
   case' c16 => refine' pss_cons ?c24 ?c25
   case' c24 => refine' ps_set (i := 5) ?c26 ?c27 ?c28 ?c29
   case c26 => exact sc__law_told.nd
   case c27 => exact rfl
   case c28 => exact (Or.inl rfl)
   case' c29 => refine' pe_lst ?c30
   case' c30 => refine' pa_cons ?c31 ?c32
   case' c31 => refine' pe_callB (call_isiX (K := K) rfl) (by rfl) T.b_isinstance boot_isinstance ?c33
   case' c33 => refine' pa_cons (pvF 3) ?c34
   case' c34 => exact (pa_cons (pe_glob (v := V.ref C.NoBox) rfl T.g_NoBox rfl) pa_nil)
   case' c32 => refine' pa_cons ?c35 ?c36
   case' c35 => refine' pe_callB (call_isiX (K := K) rfl) (by rfl) T.b_isinstance boot_isinstance ?c37
   case' c37 => refine' pa_cons (pvF 3) ?c38
   case' c38 => exact (pa_cons (pe_glob (v := V.ref C.TooMany) rfl T.g_TooMany rfl) pa_nil)
   case' c36 => refine' pa_cons ?c39 pa_nil
   case' c39 => refine' pe_callB (call_isiX (K := K) rfl) (by rfl) T.b_isinstance boot_isinstance ?c40
   case' c40 => refine' pa_cons (pvF 3) ?c41
   case' c41 => exact (pa_cons (pe_glob (v := V.ref C.NoSpot) rfl T.g_NoSpot rfl) pa_nil)
   case' c25 => refine' pss_cons ?c42 ?c43
   case' c42 => refine' ps_if ?c44 ?c45 ?c46
   case' c44 => refine' PW.pt ?c47
   case' c47 => refine' pw_or ?c48 ?c49
   case' c48 => refine' pt_cmpF op_neI ?c50 pe_int (nomark _)
   case' c50 => refine' pe_cntB (pvF 5) ?c51
   case' c51 => exact (pa_cons pe_bl pa_nil)
   case' c49 => refine' pw_or1 ?c52
   case' c52 => refine' pt_valF ?c53
   case' c53 => refine' pe_callB ?c54 ?c55 ?c56 ?c57 ?c58
   case c54 => exact (call_isiXT (K := K) rfl)
   case c55 => exact (by rfl)
   case c56 => exact T.b_isinstance
   case c57 => exact boot_isinstance
   case' c58 => refine' pa_cons (pvF 3) ?c59
   case' c59 => refine' pa_cons ?c60 pa_nil
   case' c60 => refine' pe_tup ?c61
   case' c61 => refine' pa_cons (pe_glob (v := V.ref C.NoLot) rfl T.g_NoLot rfl) ?c62
   case' c62 => exact (pa_cons (pe_glob (v := V.ref C.Unknown) rfl T.g_Unknown rfl) pa_nil)
   case' c45 => refine' pss_one ?c63
   case' c63 => refine' ps_ret ?c64
   case' c64 => refine' pe_tup ?c65
   case' c65 => refine' pa_cons pe_str ?c66
   case' c66 => exact (pa_cons pe_non pa_nil)
   case c46 => exact pss_nil
   case' c43 => refine' pss_cons ?c67 ?c68
   case' c67 => refine' ps_if ?c69 ?c70 ?c71
   case' c69 => refine' pt_valF ?c72
   case' c72 => exact (pe_ix ix_F (pvF 5) pe_int (fun _ _ => rfl))
   case' c70 => refine' pss_one ?c73
   case' c73 => refine' ps_ret ?c74
   case' c74 => refine' pe_tup ?c75
   case' c75 => refine' pa_cons pe_str ?c76
   case' c76 => exact (pa_cons (pe_at (K := K) rfl (pvF 3) rfl) pa_nil)
   case c71 => exact pss_nil
   case' c68 => refine' pss_one ?c77
   case' c77 => refine' ps_ret ?c78
   case' c78 => refine' pe_tup ?c79
   case' c79 => refine' pa_consS ?c80 ?c81
   case' c80 => refine' pe_ix ?c82 ?c83 ?c84 ?c85
   case c82 => exact ix_F
   case' c83 => refine' pe_lst ?c86
   case' c86 => refine' pa_cons pe_str ?c87
   case' c87 => exact (pa_cons pe_str pa_nil)
   case' c84 => refine' pe_idxB (pvF 5) ?c88
   case' c88 => exact (pa_cons pe_bl pa_nil)
   case c85 => exact (fun _ _ => rfl)
   case' c81 => exact (pa_cons pe_non pa_nil)
  case rest =>
   obtain ⟨bo, hts, sm, few, h⟩ := h
   simp only [L2.start, List.map_cons, List.map_nil, List.length_cons, List.length_nil, Nat.reduceAdd, Nat.reduceSub, List.replicate_succ, List.replicate_zero, List.cons_append, List.nil_append, List.append_nil]
   refine ⟨fun σ H' => ∃ (a : Vt) (w : V), σ = [some (.ref b), some (.ref l), some (.ref t), some w, none, none] ∧ IsVt x y u v rs s a ∧ Ext H H' ∧ (match a with
    | .fine => w = .non
    | .box => ∃ e, w = .ref e ∧ H' e = some (excD e C.NoBox none)
    | .many => ∃ e, w = .ref e ∧ H' e = some (excD e C.TooMany none)
    | .spot i => ∃ e dx, w = .ref e ∧ H' e = some (excD e C.NoSpot (some dx)) ∧ H' dx = some (.xd [("at", .int (i : Int))])), ?_, ?_⟩
   ·o_head ⟨tRaiseN, tAt, tTryN, sp_takesE⟩
    refine ⟨x, y, u, v, ⟨qs, rs, bo, s, hts, sm, few, ?_, ?_, ?_, ?_⟩⟩
    ·intro hv H' x'
     refine ⟨C.NoBox, rfl, T.x_NoBox.b, T.m_NoBox_LandError, fun e he => ?_⟩
     o_head ⟨tRaiseN, tAt, tTryN⟩
     exact ⟨.box, hv, x'.then he, trivial⟩
    ·intro hv H' x'
     refine ⟨C.TooMany, rfl, T.x_TooMany.b, T.m_TooMany_LandError, fun e he => ?_⟩
     o_head ⟨tRaiseN, tAt, tTryN⟩
     exact ⟨.many, hv, x'.then he, trivial⟩
    ·intro i hv H' dx x' hd
     refine ⟨C.NoSpot, rfl, T.eb_NoSpot, T.m_NoSpot_LandError, fun e he => ?_⟩
     o_head ⟨tRaiseN, tAt, tTryN⟩
     exact ⟨.spot i, hv, (x'.then hd).then he, dx, rfl, upd_f he upd_same⟩
    ·intro hv w H' x'
     exact ⟨.fine, hv, x', by first | trivial | rfl⟩
   ·rintro σ H1 ⟨a, w, rfl, hv, x1, hw⟩
    cases a with
    | fine =>
     subst hw
     o_head ⟨tRaiseN, tAt, tTryN⟩
     exact ⟨by decide, fun p hp => h .fine p _ hv (x1.then hp) upd_same⟩
    | box =>
     obtain ⟨e, rfl, he⟩ := hw
     o_head ⟨tRaiseN, tAt, tTryN⟩
     refine rIsiX_c he T.x_NoBox.b T.i_NoBox_NoBox ?_
     refine rIsiX_c he T.x_NoBox.b T.i_NoBox_TooMany ?_
     refine rIsiX_c he T.x_NoBox.b T.i_NoBox_NoSpot ?_
     refine ⟨by decide, fun p hp => ?_⟩
     refine ⟨[true, false, false], upd_same, ?_⟩
     show (if ¬ ((1 : Int) = 1) then _ else _)
     rw [if_neg (fun z => z rfl)]
     refine ⟨by decide, fun p1 hp1 => ?_⟩
     refine rIsiXT_2 (upd_f hp1 (upd_f hp he)) T.x_NoBox.b upd_same T.j_NoBox_NoLot_Unknown ?_
     have ep := upd_f (o := .tup [.ref C.NoLot, .ref C.Unknown]) hp1 (upd_same (H := H1) (a := p) (o := .lst ([true, false, false].map V.bl)))
     o_head ⟨tRaiseN, tAt, tTryN, ep⟩
     refine ⟨by decide, fun p2 hp2 => ?_⟩
     have ep2 := upd_f (o := .lst [.str "box", .str "many"]) hp2 ep
     rw [ep2, lstOf_l]
     refine ⟨rfl, [true, false, false], ep2, by decide, ?_⟩
     rw [show ((List.idxOf true [true, false, false] : Nat) : Int) = 0 from rfl]
     o_head ⟨tRaiseN, tAt, tTryN⟩
     refine ⟨by decide, fun p3 hp3 => h .box p3 _ hv ((((x1.then hp).then hp1).then hp2).then hp3) upd_same⟩
    | many =>
     obtain ⟨e, rfl, he⟩ := hw
     o_head ⟨tRaiseN, tAt, tTryN⟩
     refine rIsiX_c he T.x_TooMany.b T.i_TooMany_NoBox ?_
     refine rIsiX_c he T.x_TooMany.b T.i_TooMany_TooMany ?_
     refine rIsiX_c he T.x_TooMany.b T.i_TooMany_NoSpot ?_
     refine ⟨by decide, fun p hp => ?_⟩
     refine ⟨[false, true, false], upd_same, ?_⟩
     show (if ¬ ((1 : Int) = 1) then _ else _)
     rw [if_neg (fun z => z rfl)]
     refine ⟨by decide, fun p1 hp1 => ?_⟩
     refine rIsiXT_2 (upd_f hp1 (upd_f hp he)) T.x_TooMany.b upd_same T.j_TooMany_NoLot_Unknown ?_
     have ep := upd_f (o := .tup [.ref C.NoLot, .ref C.Unknown]) hp1 (upd_same (H := H1) (a := p) (o := .lst ([false, true, false].map V.bl)))
     o_head ⟨tRaiseN, tAt, tTryN, ep⟩
     refine ⟨by decide, fun p2 hp2 => ?_⟩
     have ep2 := upd_f (o := .lst [.str "box", .str "many"]) hp2 ep
     rw [ep2, lstOf_l]
     refine ⟨rfl, [false, true, false], ep2, by decide, ?_⟩
     rw [show ((List.idxOf true [false, true, false] : Nat) : Int) = 1 from rfl]
     o_head ⟨tRaiseN, tAt, tTryN⟩
     refine ⟨by decide, fun p3 hp3 => h .many p3 _ hv ((((x1.then hp).then hp1).then hp2).then hp3) upd_same⟩
    | spot i =>
     obtain ⟨e, dx, rfl, he, hd⟩ := hw
     o_head ⟨tRaiseN, tAt, tTryN⟩
     refine rIsiX_c he T.eb_NoSpot T.i_NoSpot_NoBox ?_
     refine rIsiX_c he T.eb_NoSpot T.i_NoSpot_TooMany ?_
     refine rIsiX_c he T.eb_NoSpot T.i_NoSpot_NoSpot ?_
     refine ⟨by decide, fun p hp => ?_⟩
     refine ⟨[false, false, true], upd_same, ?_⟩
     show (if ¬ ((1 : Int) = 1) then _ else _)
     rw [if_neg (fun z => z rfl)]
     refine ⟨by decide, fun p1 hp1 => ?_⟩
     refine rIsiXT_2 (upd_f hp1 (upd_f hp he)) T.eb_NoSpot upd_same T.j_NoSpot_NoLot_Unknown ?_
     have ep := upd_f (o := .tup [.ref C.NoLot, .ref C.Unknown]) hp1 (upd_same (H := H1) (a := p) (o := .lst ([false, false, true].map V.bl)))
     o_head ⟨tRaiseN, tAt, tTryN, ep⟩
     exact ⟨C.NoSpot, dx, upd_f hp1 (upd_f hp he), T.eb_NoSpot, T.at_NoSpot, T.hd_NoSpot, _, upd_f hp1 (upd_f hp hd), _, rfl, by decide, fun p3 hp3 => h (.spot i) p3 _ hv (((x1.then hp).then hp1).then hp3) upd_same⟩
end
end LW
namespace LW
open PySem L2 MA PyProof.Rows MC
section
variable {P : Program} {w : World} {K : PySem.W.Frag} {mg : Str → Option Value} {base : Heap}
theorem sc_law : FnScope ["_law_script", "_law_k", "_law_feed_here", "_law_x", "_law_y", "_law_box", "_law_spots_here", "_law_spot"] ["_law_script"] (defScope s_law) := ⟨rfl, rfl, rfl, by decide +kernel, rfl, by decide +kernel, by decide +kernel⟩
set_option maxHeartbeats 0 in
theorem ok_law {C : Cz} {f : Addr} {fd : FuncData} (F : Fun K "law" "law" s_law f fd) (T : Txt P K mg C) (F__law_told : FnB P w K mg base (CXE P w) 10 "_law_told" ["_law_box", "_law_spots_here", "_law_spot"] (sp_told K)) (F__law_due : FnB P w K mg base (CXE P w) 1 "_law_due" ["_law_box", "_law_spots_here", "_law_spot"] (sp_due K)) (F__law_next : FnB P w K mg base (CXE P w) 1 "_law_next" ["_law_feed_here", "_law_many"] sp_next) (F__law_full : FnB P w K mg base (CXE P w) 2 "_law_full" ["_law_feed_here", "_law_box"] (sp_full K)) (F__law_spots : FnB P w K mg base (CXE P w) 2 "_law_spots" ["_law_feed_here", "_law_box"] (sp_spots K)) (F__law_feed : FnB P w K mg base (CXE P w) 1 "_law_feed" ["_law_script", "_law_k"] (sp_feed K)) : FnOk P w K mg base (CXE P w) 11 f fd ["_law_script"] (sp_law K) := by
 refine okN F (k := 10) sc_law (fun vs H Q E h => ?_) (fun cdv A outer s H vs Q E hr h => ?_)
 ·obtain ⟨a, ns, rfl, _⟩ := h
  rfl
 ·obtain ⟨a, ns, rfl, h⟩ := h
  refine' ⟨_, ?main, ?rest⟩
  case main =>
   refine' pss_cons ?c1 ?c2
   case' c1 => refine' ps_for ?c3 ?c4 ?c5 ?c6 ?c7
   case c3 => exact PassesOwn.never
   case c4 => exact rfl
   case' c5 => refine' pi_range1 rfl T.b_range ?c8
   case' c8 => refine' pa_cons ?c9 ?c10
   case' c9 => refine' pe_callB ?c11 ?c12 ?c13 ?c14 ?c15
   case c11 => exact (call_min2 rfl)
   case c12 => exact (by rfl)
   case c13 => exact T.b_min
   case c14 => exact boot_min
   case' c15 => refine' pa_cons pe_int ?c16
   case' c16 => refine' pa_cons ?c17 pa_nil
   case' c17 => refine' pe_op (OpR.f0 op_add) pe_int ?c18
   case' c18 => refine' pe_callB (call_lenK (K := K) rfl) (by rfl) T.b_len PySem.boot_len ?c19
   case' c19 => exact (pa_cons (pvF 0) pa_nil)
   case c10 => exact pa_nil
   case c6 => exact (pg_name (i := 1) sc_law.nd rfl (Or.inl rfl))
   case' c7 => refine' pss_cons ?c20 ?c21
   case' c20 => refine' ps_set (i := 2) sc_law.nd rfl (Or.inl rfl) ?c22
   case' c22 => refine' pe_fn F__law_feed (hr.mono (by decide)) rfl passE0 ?c23
   case' c23 => refine' pa_cons (pvF 0) ?c24
   case' c24 => exact (pa_cons (pvF 1) pa_nil)
   case' c21 => refine' pss_cut ?c25 ?c26
   case' c25 => refine' ps_par (i := 3) (j := 4) ?c27 ?c28 ?c29 ?c30 ?c31 ?c32 ?c33 ?c34 ?c35
   case c27 => exact rfl
   case c28 => exact sc_law.nd
   case c29 => exact rfl
   case c30 => exact rfl
   case c31 => exact (by decide)
   case c32 => exact rfl
   case c33 => exact rfl
   case' c34 => refine' pa_cons ?c36 ?c37
   case' c36 => refine' pe_op (OpR.f0 op_sub) ?c38 pe_int
   case' c38 => refine' pe_fn F__law_next (hr.mono (by decide)) rfl passE0 ?c39
   case' c39 => refine' pa_cons (pvF 2) ?c40
   case' c40 => exact (pa_cons pe_int pa_nil)
   case' c37 => refine' pa_cons ?c41 pa_nil
   case' c41 => refine' pe_op (OpR.f0 op_sub) ?c42 pe_int
   case' c42 => refine' pe_fn F__law_next (hr.mono (by decide)) rfl passE0 ?c43
   case' c43 => refine' pa_cons (pvF 2) ?c44
   case' c44 => exact (pa_cons pe_int pa_nil)
   case c35 => exact rfl
   case' c26 => refine' pss_cut ?c45 ?c46
   case' c45 => refine' ps_set (i := 5) ?c47 ?c48 ?c49 ?c50
   case c47 => exact sc_law.nd
   case c48 => exact rfl
   case c49 => exact (Or.inl rfl)
   case' c50 => refine' pe_tup ?c51
   case' c51 => refine' pa_cons ?c52 ?c53
   case c52 => exact (pvF 3)
   case' c53 => refine' pa_cons ?c54 ?c55
   case c54 => exact (pvF 4)
   case' c55 => refine' pa_cons ?c56 ?c57
   case' c56 => refine' pe_op (OpR.f0 op_add) ?c58 ?c59
   case' c58 => exact (pe_op (OpR.f0 op_add) (pvF 3) pe_int)
   case' c59 => refine' pe_fn F__law_next (hr.mono (by decide)) rfl passE0 ?c60
   case' c60 => refine' pa_cons (pvF 2) ?c61
   case' c61 => exact (pa_cons pe_int pa_nil)
   case' c57 => refine' pa_cons ?c62 ?c63
   case' c62 => refine' pe_op (OpR.f0 op_add) ?c64 ?c65
   case' c64 => exact (pe_op (OpR.f0 op_add) (pvF 4) pe_int)
   case' c65 => refine' pe_fn F__law_next (hr.mono (by decide)) rfl passE0 ?c66
   case' c66 => refine' pa_cons (pvF 2) ?c67
   case' c67 => exact (pa_cons pe_int pa_nil)
   case c63 => exact pa_nil
   case' c46 => refine' pss_cut ?c68 ?c69
   case' c68 => refine' ps_set (i := 6) sc_law.nd rfl (Or.inl rfl) ?c70
   case' c70 => refine' pe_fn F__law_spots (hr.mono (by decide)) rfl passE0 ?c71
   case' c71 => refine' pa_cons (pvF 2) ?c72
   case' c72 => exact (pa_cons (pvF 5) pa_nil)
   case' c69 => refine' pss_cut ?c73 ?c74
   case' c73 => refine' ps_if ?c75 ?c76 ?c77
   case' c75 => refine' pt_cmpF op_eqI ?c78 pe_int (nomark _)
   case' c78 => refine' pe_fn F__law_next (hr.mono (by decide)) rfl passE0 ?c79
   case' c79 => refine' pa_cons (pvF 2) ?c80
   case' c80 => exact (pa_cons pe_int pa_nil)
   case' c76 => refine' pss_one ?c81
   case' c81 => refine' ps_set (i := 6) sc_law.nd rfl (Or.inl rfl) ?c82
   case' c82 => refine' pe_fn F__law_full (hr.mono (by decide)) rfl passE0 ?c83
   case' c83 => refine' pa_cons (pvF 2) ?c84
   case' c84 => exact (pa_cons (pvF 5) pa_nil)
   case c77 => exact pss_nil
   case' c74 => refine' pss_cut ?c85 ?c86
   case' c85 => refine' ps_set (i := 7) ?c87 ?c88 ?c89 ?c90
   case c87 => exact sc_law.nd
   case c88 => exact rfl
   case c89 => exact (Or.inl rfl)
   case' c90 => refine' pe_tup ?c91
   case' c91 => refine' pa_cons ?c92 ?c93
   case' c92 => refine' pe_op ?c94 ?c95 ?c96
   case c94 => exact (OpR.f0 op_add)
   case' c95 => refine' pe_op (OpR.f0 op_sub) ?c97 pe_int
   case' c97 => exact (pe_ix ix_F (pvF 5) pe_int (fun _ _ => rfl))
   case' c96 => refine' pe_fn ?c98 ?c99 ?c100 ?c101 ?c102
   case c98 => exact F__law_next
   case c99 => exact (hr.mono (by decide))
   case c100 => exact rfl
   case c101 => exact passE0
   case' c102 => refine' pa_cons ?c103 ?c104
   case c103 => exact (pvF 2)
   case' c104 => refine' pa_cons ?c105 pa_nil
   case' c105 => refine' pe_op (OpR.f0 op_add) ?c106 pe_int
   case' c106 => refine' pe_op (OpR.f0 op_sub) ?c107 ?c108
   case' c107 => exact (pe_ix ix_F (pvF 5) pe_int (fun _ _ => rfl))
   case' c108 => exact (pe_ix ix_F (pvF 5) pe_int (fun _ _ => rfl))
   case' c93 => refine' pa_cons ?c109 ?c110
   case' c109 => refine' pe_op ?c111 ?c112 ?c113
   case c111 => exact (OpR.f0 op_add)
   case' c112 => refine' pe_op (OpR.f0 op_sub) ?c114 pe_int
   case' c114 => exact (pe_ix ix_F (pvF 5) pe_int (fun _ _ => rfl))
   case' c113 => refine' pe_fn ?c115 ?c116 ?c117 ?c118 ?c119
   case c115 => exact F__law_next
   case c116 => exact (hr.mono (by decide))
   case c117 => exact rfl
   case c118 => exact passE0
   case' c119 => refine' pa_cons ?c120 ?c121
   case c120 => exact (pvF 2)
   case' c121 => refine' pa_cons ?c122 pa_nil
   case' c122 => refine' pe_op (OpR.f0 op_add) ?c123 pe_int
   case' c123 => refine' pe_op (OpR.f0 op_sub) ?c124 ?c125
   case' c124 => exact (pe_ix ix_F (pvF 5) pe_int (fun _ _ => rfl))
   case' c125 => exact (pe_ix ix_F (pvF 5) pe_int (fun _ _ => rfl))
   case c110 => exact pa_nil
   case' c86 => refine' pss_cut ?c126 ?c127
   case' c126 => refine' ps_if ?c128 ?c129 ?c130
   case' c128 => refine' PW.pt ?c131
   case' c131 => refine' pw_and ?c132 ?c133
   case' c132 => refine' pt_cmpF op_eqI ?c134 pe_int (nomark _)
   case' c134 => refine' pe_fn F__law_next (hr.mono (by decide)) rfl passE0 ?c135
   case' c135 => refine' pa_cons (pvF 2) ?c136
   case' c136 => exact (pa_cons pe_int pa_nil)
   case' c133 => refine' pw_and1 ?c137
   case' c137 => refine' pt_cmpF (OpR.f0 op_gt) ?c138 pe_int (nomark _)
   case' c138 => refine' pe_callB call_lenF (by rfl) T.b_len PySem.boot_len ?c139
   case' c139 => exact (pa_cons (pvF 6) pa_nil)
   case' c129 => refine' pss_one ?c140
   case' c140 => refine' ps_set (i := 7) sc_law.nd rfl (Or.inl rfl) ?c141
   case' c141 => refine' pe_ix ix_F (pvF 6) ?c142 (fun _ _ => rfl)
   case' c142 => refine' pe_fn F__law_next (hr.mono (by decide)) rfl passE0 ?c143
   case' c143 => refine' pa_cons (pvF 2) ?c144
   case' c144 => refine' pa_cons ?c145 pa_nil
   case' c145 => refine' pe_callB call_lenF (by rfl) T.b_len PySem.boot_len ?c146
   case' c146 => exact (pa_cons (pvF 6) pa_nil)
   case c130 => exact pss_nil
   case' c127 => refine' pss_cut ?c147 ?c148
   case' c147 => refine' ps_if ?c149 ?c150 ?c151
   case' c149 => refine' pt_cmpF op_eqI ?c152 pe_int (nomark _)
   case' c152 => refine' pe_fn F__law_next (hr.mono (by decide)) rfl passE0 ?c153
   case' c153 => refine' pa_cons (pvF 2) ?c154
   case' c154 => exact (pa_cons pe_int pa_nil)
   case' c150 => refine' pss_one ?c155
   case' c155 => refine' ps_set (i := 5) ?c156 ?c157 ?c158 ?c159
   case c156 => exact sc_law.nd
   case c157 => exact rfl
   case c158 => exact (Or.inl rfl)
   case' c159 => refine' pe_ix ?c160 ?c161 ?c162 ?c163
   case c160 => exact ix_F
   case' c161 => refine' pe_lst ?c164
   case' c164 => refine' pa_cons ?c165 ?c166
   case' c165 => refine' pe_tup ?c167
   case' c167 => refine' pa_cons ?c168 ?c169
   case' c168 => exact (pe_ix ix_F (pvF 5) pe_int (fun _ _ => rfl))
   case' c169 => refine' pa_cons ?c170 ?c171
   case' c170 => exact (pe_ix ix_F (pvF 5) pe_int (fun _ _ => rfl))
   case' c171 => refine' pa_cons ?c172 ?c173
   case' c172 => exact (pe_ix ix_F (pvF 5) pe_int (fun _ _ => rfl))
   case' c173 => refine' pa_cons ?c174 pa_nil
   case' c174 => exact (pe_ix ix_F (pvF 5) pe_int (fun _ _ => rfl))
   case' c166 => refine' pa_cons ?c175 ?c176
   case' c175 => refine' pe_tup ?c177
   case' c177 => refine' pa_cons ?c178 ?c179
   case' c178 => exact (pe_ix ix_F (pvF 5) pe_int (fun _ _ => rfl))
   case' c179 => refine' pa_cons ?c180 ?c181
   case' c180 => exact (pe_ix ix_F (pvF 5) pe_int (fun _ _ => rfl))
   case' c181 => refine' pa_cons ?c182 ?c183
   case' c182 => exact (pe_ix ix_F (pvF 5) pe_int (fun _ _ => rfl))
   case' c183 => refine' pa_cons ?c184 pa_nil
   case' c184 => refine' pe_op (OpR.f0 op_sub) ?c185 pe_int
   case' c185 => exact (pe_ix ix_F (pvF 5) pe_int (fun _ _ => rfl))
   case c176 => exact pa_nil
   case' c162 => refine' pe_fn F__law_next (hr.mono (by decide)) rfl passE0 ?c186
   case' c186 => refine' pa_cons (pvF 2) ?c187
   case' c187 => exact (pa_cons pe_int pa_nil)
   case c163 => exact (fun _ _ => rfl)
   case c151 => exact pss_nil
   case' c148 => refine' pss_one ?c188
   case' c188 => refine' ps_if ?c189 ?c190 ?c191
   case' c189 => refine' pt_cmpF (op_neDK (K := K) rfl (hu64 hr)) ?c192 ?c193 (nomark _)
   case' c192 => refine' pe_fn F__law_told (hr.mono (by decide)) rfl passE0 ?c194
   case' c194 => refine' pa_cons (pvF 5) ?c195
   case' c195 => refine' pa_cons (pvF 6) ?c196
   case' c196 => exact (pa_cons (pvF 7) pa_nil)
   case' c193 => refine' pe_fn F__law_due (hr.mono (by decide)) rfl passE0 ?c197
   case' c197 => refine' pa_cons (pvF 5) ?c198
   case' c198 => refine' pa_cons (pvF 6) ?c199
   case' c199 => exact (pa_cons (pvF 7) pa_nil)
   case' c190 => refine' pss_one ?c200
   case' c200 => exact (ps_ret pe_bl)
   case c191 => exact pss_nil
   case' c2 => refine' pss_one ?c201
   case' c201 => exact (ps_ret pe_bl)
  case rest =>
   obtain ⟨hS, hl, h⟩ := h
   simp only [L2.start, List.map_cons, List.map_nil, List.length_cons, List.length_nil, Nat.reduceAdd, Nat.reduceSub, List.replicate_succ, List.replicate_zero, List.cons_append, List.nil_append, List.append_nil]
   rw [tSeq]
   refine tfor_range (min 10 (2 + ns.length)) ?_ ?_ (fun i σ H' => ∃ (o1 o2 o3 o4 o5 o6 o7 : Option V), σ = [some (.ref a), o1, o2, o3, o4, o5, o6, o7] ∧ SqL K H' a (ns.map V.int)) ⟨_, _, _, _, _, _, _, rfl, hS⟩ ?_ ?_
   ·intro R hR
    o_head ⟨tRaiseN, tAt, tTryN⟩
    refine ⟨_, .inl hS, ?_⟩
    rw [List.length_map]
    have e : (if 2 + (ns.length : Int) < 10 then 2 + (ns.length : Int) else 10) = ((min 10 (2 + ns.length) : Nat) : Int) := by split <;> omega
    rw [e]
    exact hR
   ·omega
   rotate_left
   ·rintro σ H1 ⟨o1, o2, o3, o4, o5, o6, o7, rfl, hS1⟩
    o_head ⟨tRaiseN, tAt, tTryN⟩
    exact h _
   rintro i σ H1 hi ⟨o1, o2, o3, o4, o5, o6, o7, rfl, hS1⟩
   o_head ⟨tRaiseN, tAt, tTryN, sp_feed⟩
   refine ⟨⟨ns, hS1⟩, fun p z1 z2 z3 hp => ?_⟩
   have x0 := Ext.upd (o := .lst [.int z1, .int z2, .int z3]) hp
   have hF0 : Feed (upd H1 p (.lst [.int z1, .int z2, .int z3])) p := ⟨z1, z2, z3, upd_same⟩
   generalize upd H1 p (.lst [.int z1, .int z2, .int z3]) = H2 at x0 hF0 ⊢
   refine ⟨fun σ H' => ∃ x y : Int, σ = [some (.ref a), some (.int (0 + (i : Int))), some (.ref p), some (.int x), some (.int y), o5, o6, o7] ∧ FX p H2 H' ∧ (-30 ≤ x ∧ x ≤ 29) ∧ (-30 ≤ y ∧ y ≤ 29), ?_, ?_⟩
   ·o_head ⟨tRaiseN, tAt, tTryN, sp_next⟩
    exact ⟨hF0, fun r1 H3 a1 a2 f1 => ⟨f1.feed, fun r2 H4 a3 a4 f2 => ⟨f1.trans f2, by omega, by omega, by omega, by omega⟩⟩⟩
   rintro σ H3 ⟨x, y, rfl, f3, hx, hy⟩
   refine ⟨fun σ H' => ∃ (b : Addr) (u v : Int), σ = [some (.ref a), some (.int (0 + (i : Int))), some (.ref p), some (.int x), some (.int y), some (.ref b), o6, o7] ∧ FX p H2 H' ∧ H' b = some (.tup [.int x, .int y, .int u, .int v]) ∧ BxIn x y u v, ?_, ?_⟩
   ·o_head ⟨tRaiseN, tAt, tTryN, sp_next⟩
    refine ⟨f3.feed, fun r1 H4 a1 a2 f4 => ⟨f4.feed, fun r2 H5 a3 a4 f5 => ⟨by decide, fun b hb => ?_⟩⟩⟩
    exact ⟨((f3.trans f4).trans f5).upd hb, _, _, rfl, ⟨by omega, by omega, by omega, by omega⟩⟩
   rintro σ H4 ⟨b, u, v, rfl, f4, eb, bi⟩
   have u0 := bi.u0
   have v0 := bi.v0
   refine ⟨fun σ H' => ∃ (l : Addr) (qs : List Addr) (rs : List P2), σ = [some (.ref a), some (.int (0 + (i : Int))), some (.ref p), some (.int x), some (.int y), some (.ref b), some (.ref l), o7] ∧ FX p H2 H' ∧ H' b = some (.tup [.int x, .int y, .int u, .int v]) ∧ H' l = some (.lst (qs.map V.ref)) ∧ R2At H' qs rs ∧ rs.length ≤ 200 ∧ Nigh rs ∧ l ≠ p, ?_, ?_⟩
   ·o_head ⟨tRaiseN, tAt, tTryN, sp_spots⟩
    exact ⟨f4.feed, _, _, _, _, eb, bi, fun l qs rs H5 f5 el er l200 ng lp => ⟨f4.trans f5, fx_tup3 f5 f4.feed eb, qs, el, rs, er, l200, ng, lp⟩⟩
   rintro σ H5 ⟨l, qs, rs, rfl, f5, eb5, el, er, l200, ng, lp⟩
   refine ⟨fun σ H' => ∃ (l : Addr) (qs : List Addr) (rs : List P2), σ = [some (.ref a), some (.int (0 + (i : Int))), some (.ref p), some (.int x), some (.int y), some (.ref b), some (.ref l), o7] ∧ FX p H2 H' ∧ H' b = some (.tup [.int x, .int y, .int u, .int v]) ∧ H' l = some (.lst (qs.map V.ref)) ∧ R2At H' qs rs ∧ rs.length ≤ 200 ∧ Nigh rs ∧ l ≠ p, ?_, ?_⟩
   ·o_head ⟨tRaiseN, tAt, tTryN, sp_next, sp_full⟩
    refine ⟨f5.feed, fun r H6 a1 a2 f6 => ?_⟩
    split
    ·exact ⟨f6.feed, _, _, _, _, fx_tup3 f6 f5.feed eb5, bi, fun l qs rs H7 f7 el er l200 ng lp => ⟨(f5.trans f6).trans f7, fx_tup3 f7 f6.feed (fx_tup3 f6 f5.feed eb5), qs, el, rs, er, l200, ng, lp⟩⟩
    ·exact ⟨f5.trans f6, fx_tup3 f6 f5.feed eb5, qs, f6.keep l _ lp el, rs, fx_r2 f6 f5.feed er, l200, ng, lp⟩
   clear el er l200 ng lp
   rintro σ H6 ⟨l, qs, rs, rfl, f6, eb6, el, er, l200, ng, lp⟩
   have lq : (qs.map V.ref).length = rs.length := by rw [List.length_map]; exact er.1
   refine ⟨fun σ H' => ∃ (t : Addr) (s : P2), σ = [some (.ref a), some (.int (0 + (i : Int))), some (.ref p), some (.int x), some (.int y), some (.ref b), some (.ref l), some (.ref t)] ∧ FX p H6 H' ∧ H' t = some (.tup [.int s.1, .int s.2]) ∧ Nigh [s], ?_, ?_⟩
   ·o_head ⟨tRaiseN, tAt, tTryN, eb6, sp_next⟩
    refine ⟨f6.feed, by omega, by omega, fun r1 H7 a1 a2 f7 => ?_⟩
    o_head ⟨tRaiseN, tAt, tTryN, fx_tup3 f7 f6.feed eb6⟩
    refine ⟨f7.feed, by omega, by omega, fun r2 H8 a3 a4 f8 => ⟨by decide, fun t ht => ?_⟩⟩
    exact ⟨(f7.trans f8).upd ht, (x - 1 + r1, y - 1 + r2), rfl, .one (by omega) (by omega)⟩
   rintro σ H7 ⟨t, s, rfl, f7, ht, ns1⟩
   have f67 := f6.trans f7
   have eb7 := fx_tup3 f7 f6.feed eb6
   have el7 := f7.keep l _ lp el
   have er7 := fx_r2 f7 f6.feed er
   refine ⟨fun σ H' => ∃ (t : Addr) (s : P2), σ = [some (.ref a), some (.int (0 + (i : Int))), some (.ref p), some (.int x), some (.int y), some (.ref b), some (.ref l), some (.ref t)] ∧ FX p H7 H' ∧ H' t = some (.tup [.int s.1, .int s.2]) ∧ Nigh [s], ?_, ?_⟩
   ·o_head ⟨tRaiseN, tAt, tTryN, sp_next⟩
    refine ⟨f67.feed, fun r1 H8 a1 a2 f8 => ?_⟩
    have el8 := f8.keep l _ lp el7
    o_head ⟨tRaiseN, tAt, tTryN, el8, lq⟩
    split
    ·split
     ·refine ⟨f8.feed, by omega, by omega, fun r H9 b1 b2 f9 => ?_⟩
      have el9 := f9.keep l _ lp el8
      obtain ⟨q, hq⟩ : ∃ q, qs[r.toNat]? = some q := ⟨_, List.getElem?_eq_getElem (by rw [er.1]; omega)⟩
      obtain ⟨s', hs'⟩ : ∃ q, rs[r.toNat]? = some q := ⟨_, List.getElem?_eq_getElem (by omega)⟩
      have ai := atI_nat (xs := qs.map V.ref) (j := r.toNat) (v := .ref q) (by rw [List.getElem?_map, hq]; rfl)
      rw [Int.toNat_of_nonneg b1] at ai
      o_head ⟨tRaiseN, tAt, tTryN, el9, ai⟩
      obtain ⟨sr, hs1, hs2⟩ := (fx_r2 (f8.trans f9) f67.feed er7).at hq
      exact ⟨f8.trans f9, sr, hs2, fun w hw => by rw [List.mem_singleton.mp hw]; exact ng sr (List.mem_of_getElem? hs1)⟩
     ·exact ⟨f8, s, fx_tup3 f8 f67.feed ht, ns1⟩
    ·exact ⟨f8, s, fx_tup3 f8 f67.feed ht, ns1⟩
   clear ht ns1
   rintro σ H8 ⟨t, s, rfl, f8, ht, ns1⟩
   have eb8 := fx_tup3 f8 f67.feed eb7
   have el8 := f8.keep l _ lp el7
   have er8 := fx_r2 f8 f67.feed er7
   have f28 := f67.trans f8
   refine ⟨fun σ H' => ∃ (b : Addr) (x' y' u' v' : Int), σ = [some (.ref a), some (.int (0 + (i : Int))), some (.ref p), some (.int x), some (.int y), some (.ref b), some (.ref l), some (.ref t)] ∧ FX p H8 H' ∧ H' b = some (.tup [.int x', .int y', .int u', .int v']) ∧ ((-100 ≤ x' ∧ x' ≤ 100) ∧ (-100 ≤ y' ∧ y' ≤ 100) ∧ (-100 ≤ u' ∧ u' ≤ 100) ∧ (-100 ≤ v' ∧ v' ≤ 100)), ?_, ?_⟩
   ·o_head ⟨tRaiseN, tAt, tTryN, sp_next⟩
    refine ⟨f28.feed, fun r1 H9 a1 a2 f9 => ?_⟩
    have eb9 := fx_tup3 f9 f28.feed eb8
    o_head ⟨tRaiseN, tAt, tTryN, eb9⟩
    split
    ·refine ⟨by decide, fun c1 h1 => ?_⟩
     have y1 := Ext.upd (o := HO.tup [V.int x, V.int y, V.int x, V.int v]) h1
     o_head ⟨tRaiseN, tAt, tTryN, y1 b _ eb9⟩
     refine ⟨by decide, fun c2 h2 => ⟨by decide, fun c3 h3 => ?_⟩⟩
     have g1 := (f9.upd (o := HO.tup [V.int x, V.int y, V.int x, V.int v]) h1)
     have g2 := (g1.upd (o := HO.tup [V.int x, V.int v, V.int u, V.int (v - 1)]) h2)
     have g3 := (g2.upd (o := HO.lst [V.ref c1, V.ref c2]) h3)
     have y2 := Ext.upd (o := HO.tup [V.int x, V.int v, V.int u, V.int (v - 1)]) h2
     have y3 := Ext.upd (o := HO.lst [V.ref c1, V.ref c2]) h3
     refine ⟨g3.feed, fun r H10 b1 b2 f10 => ?_⟩
     have k3 := f10.keep c3 _ (g2.feed.ne h3) upd_same
     have k1 := fx_tup3 f10 g3.feed (y3 _ _ (y2 _ _ upd_same) : _ = some (HO.tup [V.int x, V.int y, V.int x, V.int v]))
     have k2 := fx_tup3 f10 g3.feed (y3 _ _ upd_same : _ = some (HO.tup [V.int x, V.int v, V.int u, V.int (v - 1)]))
     have hr : r = 0 ∨ r = 1 := by omega
     rcases hr with rfl | rfl
     ·o_head ⟨tRaiseN, tAt, tTryN, k3⟩
      exact ⟨g3.trans f10, _, _, _, _, k1, by omega⟩
     ·o_head ⟨tRaiseN, tAt, tTryN, k3⟩
      exact ⟨g3.trans f10, _, _, _, _, k2, by omega⟩
    ·exact ⟨f9, _, _, _, _, rfl, by omega⟩
   clear eb8
   rintro σ H9 ⟨b, x, y, u, v, rfl, f9, eb9, bb⟩
   have el9 := f9.keep l _ lp el8
   have er9 := fx_r2 f9 f28.feed er8
   have ht9 := fx_tup3 f9 f28.feed ht
   have x9 : Ext H1 H9 := x0.fx hp (f28.trans f9)
   have gb : ∀ {n : Int}, -100 ≤ n → n ≤ 100 → Bd 2000 n := fun h1 h2 => bd29 (by omega) (by omega) 2000
   have bo : BxOk H9 b l x y u v qs rs := ⟨eb9, el9, er9, ⟨gb (by omega) (by omega), gb (by omega) (by omega), gb (by omega) (by omega), gb (by omega) (by omega)⟩, by omega⟩
   have sm : Small x y u v (rs ++ [s]) := ⟨by omega, fun r hr => by
    have : (-200 ≤ r.1 ∧ r.1 ≤ 200) ∧ (-200 ≤ r.2 ∧ r.2 ≤ 200) := (List.mem_append.mp hr).elim (ng r) (ns1 r)
    omega⟩
   o_head ⟨tRaiseN, tAt, tTryN, sp_told⟩
   refine ⟨x, y, u, v, ⟨qs, rs, bo, s, ht9, sm, by omega, fun vt w1 H10 hv x10 e10 => ?_⟩⟩
   o_head ⟨tRaiseN, tAt, tTryN, sp_due⟩
   refine ⟨x, y, u, v, ⟨qs, rs, bo.ext x10, s, x10 _ _ ht9, by omega, fun vt2 w2 H11 hv2 x11 e11 => ?_⟩⟩
   have ev := hv.uniq hv2
   subst ev
   refine ⟨_, _, vt_rdy (x11 _ _ e10), vt_rdy e11, vt_shaped _, vt_shaped _, ?_⟩
   rw [vt_self]
   exact ⟨⟨_, rfl⟩, ((x9.trans x10).trans x11).sqL hS1⟩
end
end LW
namespace LW
open PySem L2 MA PyProof.Rows
theorem len_1 {us : List Value} (h : us.length = 1) : ∃ u0, us = [u0] := by
 obtain _ | ⟨u0, us⟩ := us
 ·cases h
 cases us with
 | nil => exact ⟨u0, rfl⟩
 | cons a r => simp at h
theorem len_2 {us : List Value} (h : us.length = 2) : ∃ u0 u1, us = [u0, u1] := by
 obtain _ | ⟨u0, us⟩ := us
 ·cases h
 obtain _ | ⟨u1, us⟩ := us
 ·cases h
 cases us with
 | nil => exact ⟨u0, u1, rfl⟩
 | cons a r => simp at h
theorem len_3 {us : List Value} (h : us.length = 3) : ∃ u0 u1 u2, us = [u0, u1, u2] := by
 obtain _ | ⟨u0, us⟩ := us
 ·cases h
 obtain _ | ⟨u1, us⟩ := us
 ·cases h
 obtain _ | ⟨u2, us⟩ := us
 ·cases h
 cases us with
 | nil => exact ⟨u0, u1, u2, rfl⟩
 | cons a r => simp at h
theorem len_4 {us : List Value} (h : us.length = 4) : ∃ u0 u1 u2 u3, us = [u0, u1, u2, u3] := by
 obtain _ | ⟨u0, us⟩ := us
 ·cases h
 obtain _ | ⟨u1, us⟩ := us
 ·cases h
 obtain _ | ⟨u2, us⟩ := us
 ·cases h
 obtain _ | ⟨u3, us⟩ := us
 ·cases h
 cases us with
 | nil => exact ⟨u0, u1, u2, u3, rfl⟩
 | cons a r => simp at h
set_option maxHeartbeats 0 in
theorem all_mk {l : PySem.W.OpenLaw} {w : World} {K : PySem.W.Frag} {h : Heap} {mg : Str → Option Value} {fa : Addr} (X : K.In h) (G : h.Ns mainGlobals mg) (hfa : mg "law" = some (.ref fa))
  {f_divisor : Addr} {od_divisor an_divisor : Option Addr} {sl_divisor : Array (Option Value)} {oc_divisor kV_divisor dc_divisor pm_divisor cd_divisor ct_divisor : Value} {f_sign : Addr} {od_sign an_sign : Option Addr} {sl_sign : Array (Option Value)} {oc_sign kV_sign dc_sign pm_sign cd_sign ct_sign : Value} {f_point_of : Addr} {od_point_of an_point_of : Option Addr} {sl_point_of : Array (Option Value)} {oc_point_of kV_point_of dc_point_of pm_point_of cd_point_of ct_point_of : Value} {f_spot_point : Addr} {od_spot_point an_spot_point : Option Addr} {sl_spot_point : Array (Option Value)} {oc_spot_point kV_spot_point dc_spot_point pm_spot_point cd_spot_point ct_spot_point : Value} {f_fraction_of : Addr} {od_fraction_of an_fraction_of : Option Addr} {sl_fraction_of : Array (Option Value)} {oc_fraction_of kV_fraction_of dc_fraction_of pm_fraction_of cd_fraction_of ct_fraction_of : Value} {f_difference : Addr} {od_difference an_difference : Option Addr} {sl_difference : Array (Option Value)} {oc_difference kV_difference dc_difference pm_difference cd_difference ct_difference : Value} {f_ahead : Addr} {od_ahead an_ahead : Option Addr} {sl_ahead : Array (Option Value)} {oc_ahead kV_ahead dc_ahead pm_ahead cd_ahead ct_ahead : Value} {f_line_of : Addr} {od_line_of an_line_of : Option Addr} {sl_line_of : Array (Option Value)} {oc_line_of kV_line_of dc_line_of pm_line_of cd_line_of ct_line_of : Value} {f_between : Addr} {od_between an_between : Option Addr} {sl_between : Array (Option Value)} {oc_between kV_between dc_between pm_between cd_between ct_between : Value} {f_excess : Addr} {od_excess an_excess : Option Addr} {sl_excess : Array (Option Value)} {oc_excess kV_excess dc_excess pm_excess cd_excess ct_excess : Value} {f_check_box : Addr} {od_check_box an_check_box : Option Addr} {sl_check_box : Array (Option Value)} {oc_check_box kV_check_box dc_check_box pm_check_box cd_check_box ct_check_box : Value} {f_has_point : Addr} {od_has_point an_has_point : Option Addr} {sl_has_point : Array (Option Value)} {oc_has_point kV_has_point dc_has_point pm_has_point cd_has_point ct_has_point : Value} {f_in_box : Addr} {od_in_box an_in_box : Option Addr} {sl_in_box : Array (Option Value)} {oc_in_box kV_in_box dc_in_box pm_in_box cd_in_box ct_in_box : Value} {f_check_count : Addr} {od_check_count an_check_count : Option Addr} {sl_check_count : Array (Option Value)} {oc_check_count kV_check_count dc_check_count pm_check_count cd_check_count ct_check_count : Value} {f_check_box_and_spots : Addr} {od_check_box_and_spots an_check_box_and_spots : Option Addr} {sl_check_box_and_spots : Array (Option Value)} {oc_check_box_and_spots kV_check_box_and_spots dc_check_box_and_spots pm_check_box_and_spots cd_check_box_and_spots ct_check_box_and_spots : Value} {f_others_of : Addr} {od_others_of an_others_of : Option Addr} {sl_others_of : Array (Option Value)} {oc_others_of kV_others_of dc_others_of pm_others_of cd_others_of ct_others_of : Value} {f_box_field : Addr} {od_box_field an_box_field : Option Addr} {sl_box_field : Array (Option Value)} {oc_box_field kV_box_field dc_box_field pm_box_field cd_box_field ct_box_field : Value} {f_crossing : Addr} {od_crossing an_crossing : Option Addr} {sl_crossing : Array (Option Value)} {oc_crossing kV_crossing dc_crossing pm_crossing cd_crossing ct_crossing : Value} {f_rest : Addr} {od_rest an_rest : Option Addr} {sl_rest : Array (Option Value)} {oc_rest kV_rest dc_rest pm_rest cd_rest ct_rest : Value} {f_from_first : Addr} {od_from_first an_from_first : Option Addr} {sl_from_first : Array (Option Value)} {oc_from_first kV_from_first dc_from_first pm_from_first cd_from_first ct_from_first : Value} {f_cut : Addr} {od_cut an_cut : Option Addr} {sl_cut : Array (Option Value)} {oc_cut kV_cut dc_cut pm_cut cd_cut ct_cut : Value} {f_cut_each : Addr} {od_cut_each an_cut_each : Option Addr} {sl_cut_each : Array (Option Value)} {oc_cut_each kV_cut_each dc_cut_each pm_cut_each cd_cut_each ct_cut_each : Value} {f_area : Addr} {od_area an_area : Option Addr} {sl_area : Array (Option Value)} {oc_area kV_area dc_area pm_area cd_area ct_area : Value} {f_cut_off : Addr} {od_cut_off an_cut_off : Option Addr} {sl_cut_off : Array (Option Value)} {oc_cut_off kV_cut_off dc_cut_off pm_cut_off cd_cut_off ct_cut_off : Value} {f_land_within : Addr} {od_land_within an_land_within : Option Addr} {sl_land_within : Array (Option Value)} {oc_land_within kV_land_within dc_land_within pm_land_within cd_land_within ct_land_within : Value} {f_takes : Addr} {od_takes an_takes : Option Addr} {sl_takes : Array (Option Value)} {oc_takes kV_takes dc_takes pm_takes cd_takes ct_takes : Value} {f__law_feed : Addr} {od__law_feed an__law_feed : Option Addr} {sl__law_feed : Array (Option Value)} {oc__law_feed kV__law_feed dc__law_feed pm__law_feed cd__law_feed ct__law_feed : Value} {f__law_next : Addr} {od__law_next an__law_next : Option Addr} {sl__law_next : Array (Option Value)} {oc__law_next kV__law_next dc__law_next pm__law_next cd__law_next ct__law_next : Value} {f__law_spots : Addr} {od__law_spots an__law_spots : Option Addr} {sl__law_spots : Array (Option Value)} {oc__law_spots kV__law_spots dc__law_spots pm__law_spots cd__law_spots ct__law_spots : Value} {f__law_full : Addr} {od__law_full an__law_full : Option Addr} {sl__law_full : Array (Option Value)} {oc__law_full kV__law_full dc__law_full pm__law_full cd__law_full ct__law_full : Value} {f__law_due : Addr} {od__law_due an__law_due : Option Addr} {sl__law_due : Array (Option Value)} {oc__law_due kV__law_due dc__law_due pm__law_due cd__law_due ct__law_due : Value} {f__law_told : Addr} {od__law_told an__law_told : Option Addr} {sl__law_told : Array (Option Value)} {oc__law_told kV__law_told dc__law_told pm__law_told cd__law_told ct__law_told : Value} {f_law : Addr} {od_law an_law : Option Addr} {sl_law : Array (Option Value)} {oc_law kV_law dc_law pm_law cd_law ct_law : Value} {cl_LandError : Addr} {cl_NoBox : Addr} {cl_TooMany : Addr} {cl_NoSpot : Addr} {cl_NoLot : Addr} {cl_Unknown : Addr} {cdt_NoBox : ClassData} {cdt_TooMany : ClassData} {tk_MOST_SPOTS : Tok} {ynm yq yx yqual yfile : Str} {yn : Nat} {yN yD yfI ycc ycda : Addr} {ybs ysub : List Value} {ysn : List Str} {yab : Bool} {ycol : Option Bool} {ydd yod yan yccd ycdd : Option Addr} {yk0 yk1 yk2 yk3 yk5 : Option Value} {yosl yccs ycds : Array (Option Value)} {ykV ydoc ypm yct yccl ycdl : Value} {yvs : Array Value} {ytf : Tok} {ycdt : ClassData}
  (a_divisor : PySem.W.nsIn K mainGlobals "divisor" = some (some (.ref f_divisor)))
  (l_divisor : K.lookup f_divisor = some ⟨oc_divisor, od_divisor, .func (PySem.W.fnOf "divisor" "divisor" (defArgs s_divisor) (defBody s_divisor) (defScope s_divisor) .none kV_divisor dc_divisor pm_divisor an_divisor cd_divisor ct_divisor), sl_divisor⟩)
  (c_divisor : PySem.W.codeIn K cd_divisor "divisor" = true)
  (k_divisor : PySem.W.keepIn K (.ref f_divisor) = true)
  (a_sign : PySem.W.nsIn K mainGlobals "sign" = some (some (.ref f_sign)))
  (l_sign : K.lookup f_sign = some ⟨oc_sign, od_sign, .func (PySem.W.fnOf "sign" "sign" (defArgs s_sign) (defBody s_sign) (defScope s_sign) .none kV_sign dc_sign pm_sign an_sign cd_sign ct_sign), sl_sign⟩)
  (c_sign : PySem.W.codeIn K cd_sign "sign" = true)
  (k_sign : PySem.W.keepIn K (.ref f_sign) = true)
  (a_point_of : PySem.W.nsIn K mainGlobals "point_of" = some (some (.ref f_point_of)))
  (l_point_of : K.lookup f_point_of = some ⟨oc_point_of, od_point_of, .func (PySem.W.fnOf "point_of" "point_of" (defArgs s_point_of) (defBody s_point_of) (defScope s_point_of) .none kV_point_of dc_point_of pm_point_of an_point_of cd_point_of ct_point_of), sl_point_of⟩)
  (c_point_of : PySem.W.codeIn K cd_point_of "point_of" = true)
  (k_point_of : PySem.W.keepIn K (.ref f_point_of) = true)
  (a_spot_point : PySem.W.nsIn K mainGlobals "spot_point" = some (some (.ref f_spot_point)))
  (l_spot_point : K.lookup f_spot_point = some ⟨oc_spot_point, od_spot_point, .func (PySem.W.fnOf "spot_point" "spot_point" (defArgs s_spot_point) (defBody s_spot_point) (defScope s_spot_point) .none kV_spot_point dc_spot_point pm_spot_point an_spot_point cd_spot_point ct_spot_point), sl_spot_point⟩)
  (c_spot_point : PySem.W.codeIn K cd_spot_point "spot_point" = true)
  (k_spot_point : PySem.W.keepIn K (.ref f_spot_point) = true)
  (a_fraction_of : PySem.W.nsIn K mainGlobals "fraction_of" = some (some (.ref f_fraction_of)))
  (l_fraction_of : K.lookup f_fraction_of = some ⟨oc_fraction_of, od_fraction_of, .func (PySem.W.fnOf "fraction_of" "fraction_of" (defArgs s_fraction_of) (defBody s_fraction_of) (defScope s_fraction_of) .none kV_fraction_of dc_fraction_of pm_fraction_of an_fraction_of cd_fraction_of ct_fraction_of), sl_fraction_of⟩)
  (c_fraction_of : PySem.W.codeIn K cd_fraction_of "fraction_of" = true)
  (k_fraction_of : PySem.W.keepIn K (.ref f_fraction_of) = true)
  (a_difference : PySem.W.nsIn K mainGlobals "difference" = some (some (.ref f_difference)))
  (l_difference : K.lookup f_difference = some ⟨oc_difference, od_difference, .func (PySem.W.fnOf "difference" "difference" (defArgs s_difference) (defBody s_difference) (defScope s_difference) .none kV_difference dc_difference pm_difference an_difference cd_difference ct_difference), sl_difference⟩)
  (c_difference : PySem.W.codeIn K cd_difference "difference" = true)
  (k_difference : PySem.W.keepIn K (.ref f_difference) = true)
  (a_ahead : PySem.W.nsIn K mainGlobals "ahead" = some (some (.ref f_ahead)))
  (l_ahead : K.lookup f_ahead = some ⟨oc_ahead, od_ahead, .func (PySem.W.fnOf "ahead" "ahead" (defArgs s_ahead) (defBody s_ahead) (defScope s_ahead) .none kV_ahead dc_ahead pm_ahead an_ahead cd_ahead ct_ahead), sl_ahead⟩)
  (c_ahead : PySem.W.codeIn K cd_ahead "ahead" = true)
  (k_ahead : PySem.W.keepIn K (.ref f_ahead) = true)
  (a_line_of : PySem.W.nsIn K mainGlobals "line_of" = some (some (.ref f_line_of)))
  (l_line_of : K.lookup f_line_of = some ⟨oc_line_of, od_line_of, .func (PySem.W.fnOf "line_of" "line_of" (defArgs s_line_of) (defBody s_line_of) (defScope s_line_of) .none kV_line_of dc_line_of pm_line_of an_line_of cd_line_of ct_line_of), sl_line_of⟩)
  (c_line_of : PySem.W.codeIn K cd_line_of "line_of" = true)
  (k_line_of : PySem.W.keepIn K (.ref f_line_of) = true)
  (a_between : PySem.W.nsIn K mainGlobals "between" = some (some (.ref f_between)))
  (l_between : K.lookup f_between = some ⟨oc_between, od_between, .func (PySem.W.fnOf "between" "between" (defArgs s_between) (defBody s_between) (defScope s_between) .none kV_between dc_between pm_between an_between cd_between ct_between), sl_between⟩)
  (c_between : PySem.W.codeIn K cd_between "between" = true)
  (k_between : PySem.W.keepIn K (.ref f_between) = true)
  (a_excess : PySem.W.nsIn K mainGlobals "excess" = some (some (.ref f_excess)))
  (l_excess : K.lookup f_excess = some ⟨oc_excess, od_excess, .func (PySem.W.fnOf "excess" "excess" (defArgs s_excess) (defBody s_excess) (defScope s_excess) .none kV_excess dc_excess pm_excess an_excess cd_excess ct_excess), sl_excess⟩)
  (c_excess : PySem.W.codeIn K cd_excess "excess" = true)
  (k_excess : PySem.W.keepIn K (.ref f_excess) = true)
  (a_check_box : PySem.W.nsIn K mainGlobals "check_box" = some (some (.ref f_check_box)))
  (l_check_box : K.lookup f_check_box = some ⟨oc_check_box, od_check_box, .func (PySem.W.fnOf "check_box" "check_box" (defArgs s_check_box) (defBody s_check_box) (defScope s_check_box) .none kV_check_box dc_check_box pm_check_box an_check_box cd_check_box ct_check_box), sl_check_box⟩)
  (c_check_box : PySem.W.codeIn K cd_check_box "check_box" = true)
  (k_check_box : PySem.W.keepIn K (.ref f_check_box) = true)
  (a_has_point : PySem.W.nsIn K mainGlobals "has_point" = some (some (.ref f_has_point)))
  (l_has_point : K.lookup f_has_point = some ⟨oc_has_point, od_has_point, .func (PySem.W.fnOf "has_point" "has_point" (defArgs s_has_point) (defBody s_has_point) (defScope s_has_point) .none kV_has_point dc_has_point pm_has_point an_has_point cd_has_point ct_has_point), sl_has_point⟩)
  (c_has_point : PySem.W.codeIn K cd_has_point "has_point" = true)
  (k_has_point : PySem.W.keepIn K (.ref f_has_point) = true)
  (a_in_box : PySem.W.nsIn K mainGlobals "in_box" = some (some (.ref f_in_box)))
  (l_in_box : K.lookup f_in_box = some ⟨oc_in_box, od_in_box, .func (PySem.W.fnOf "in_box" "in_box" (defArgs s_in_box) (defBody s_in_box) (defScope s_in_box) .none kV_in_box dc_in_box pm_in_box an_in_box cd_in_box ct_in_box), sl_in_box⟩)
  (c_in_box : PySem.W.codeIn K cd_in_box "in_box" = true)
  (k_in_box : PySem.W.keepIn K (.ref f_in_box) = true)
  (a_check_count : PySem.W.nsIn K mainGlobals "check_count" = some (some (.ref f_check_count)))
  (l_check_count : K.lookup f_check_count = some ⟨oc_check_count, od_check_count, .func (PySem.W.fnOf "check_count" "check_count" (defArgs s_check_count) (defBody s_check_count) (defScope s_check_count) .none kV_check_count dc_check_count pm_check_count an_check_count cd_check_count ct_check_count), sl_check_count⟩)
  (c_check_count : PySem.W.codeIn K cd_check_count "check_count" = true)
  (k_check_count : PySem.W.keepIn K (.ref f_check_count) = true)
  (a_check_box_and_spots : PySem.W.nsIn K mainGlobals "check_box_and_spots" = some (some (.ref f_check_box_and_spots)))
  (l_check_box_and_spots : K.lookup f_check_box_and_spots = some ⟨oc_check_box_and_spots, od_check_box_and_spots, .func (PySem.W.fnOf "check_box_and_spots" "check_box_and_spots" (defArgs s_check_box_and_spots) (defBody s_check_box_and_spots) (defScope s_check_box_and_spots) .none kV_check_box_and_spots dc_check_box_and_spots pm_check_box_and_spots an_check_box_and_spots cd_check_box_and_spots ct_check_box_and_spots), sl_check_box_and_spots⟩)
  (c_check_box_and_spots : PySem.W.codeIn K cd_check_box_and_spots "check_box_and_spots" = true)
  (k_check_box_and_spots : PySem.W.keepIn K (.ref f_check_box_and_spots) = true)
  (a_others_of : PySem.W.nsIn K mainGlobals "others_of" = some (some (.ref f_others_of)))
  (l_others_of : K.lookup f_others_of = some ⟨oc_others_of, od_others_of, .func (PySem.W.fnOf "others_of" "others_of" (defArgs s_others_of) (defBody s_others_of) (defScope s_others_of) .none kV_others_of dc_others_of pm_others_of an_others_of cd_others_of ct_others_of), sl_others_of⟩)
  (c_others_of : PySem.W.codeIn K cd_others_of "others_of" = true)
  (k_others_of : PySem.W.keepIn K (.ref f_others_of) = true)
  (a_box_field : PySem.W.nsIn K mainGlobals "box_field" = some (some (.ref f_box_field)))
  (l_box_field : K.lookup f_box_field = some ⟨oc_box_field, od_box_field, .func (PySem.W.fnOf "box_field" "box_field" (defArgs s_box_field) (defBody s_box_field) (defScope s_box_field) .none kV_box_field dc_box_field pm_box_field an_box_field cd_box_field ct_box_field), sl_box_field⟩)
  (c_box_field : PySem.W.codeIn K cd_box_field "box_field" = true)
  (k_box_field : PySem.W.keepIn K (.ref f_box_field) = true)
  (a_crossing : PySem.W.nsIn K mainGlobals "crossing" = some (some (.ref f_crossing)))
  (l_crossing : K.lookup f_crossing = some ⟨oc_crossing, od_crossing, .func (PySem.W.fnOf "crossing" "crossing" (defArgs s_crossing) (defBody s_crossing) (defScope s_crossing) .none kV_crossing dc_crossing pm_crossing an_crossing cd_crossing ct_crossing), sl_crossing⟩)
  (c_crossing : PySem.W.codeIn K cd_crossing "crossing" = true)
  (k_crossing : PySem.W.keepIn K (.ref f_crossing) = true)
  (a_rest : PySem.W.nsIn K mainGlobals "rest" = some (some (.ref f_rest)))
  (l_rest : K.lookup f_rest = some ⟨oc_rest, od_rest, .func (PySem.W.fnOf "rest" "rest" (defArgs s_rest) (defBody s_rest) (defScope s_rest) .none kV_rest dc_rest pm_rest an_rest cd_rest ct_rest), sl_rest⟩)
  (c_rest : PySem.W.codeIn K cd_rest "rest" = true)
  (k_rest : PySem.W.keepIn K (.ref f_rest) = true)
  (a_from_first : PySem.W.nsIn K mainGlobals "from_first" = some (some (.ref f_from_first)))
  (l_from_first : K.lookup f_from_first = some ⟨oc_from_first, od_from_first, .func (PySem.W.fnOf "from_first" "from_first" (defArgs s_from_first) (defBody s_from_first) (defScope s_from_first) .none kV_from_first dc_from_first pm_from_first an_from_first cd_from_first ct_from_first), sl_from_first⟩)
  (c_from_first : PySem.W.codeIn K cd_from_first "from_first" = true)
  (k_from_first : PySem.W.keepIn K (.ref f_from_first) = true)
  (a_cut : PySem.W.nsIn K mainGlobals "cut" = some (some (.ref f_cut)))
  (l_cut : K.lookup f_cut = some ⟨oc_cut, od_cut, .func (PySem.W.fnOf "cut" "cut" (defArgs s_cut) (defBody s_cut) (defScope s_cut) .none kV_cut dc_cut pm_cut an_cut cd_cut ct_cut), sl_cut⟩)
  (c_cut : PySem.W.codeIn K cd_cut "cut" = true)
  (k_cut : PySem.W.keepIn K (.ref f_cut) = true)
  (a_cut_each : PySem.W.nsIn K mainGlobals "cut_each" = some (some (.ref f_cut_each)))
  (l_cut_each : K.lookup f_cut_each = some ⟨oc_cut_each, od_cut_each, .func (PySem.W.fnOf "cut_each" "cut_each" (defArgs s_cut_each) (defBody s_cut_each) (defScope s_cut_each) .none kV_cut_each dc_cut_each pm_cut_each an_cut_each cd_cut_each ct_cut_each), sl_cut_each⟩)
  (c_cut_each : PySem.W.codeIn K cd_cut_each "cut_each" = true)
  (k_cut_each : PySem.W.keepIn K (.ref f_cut_each) = true)
  (a_area : PySem.W.nsIn K mainGlobals "area" = some (some (.ref f_area)))
  (l_area : K.lookup f_area = some ⟨oc_area, od_area, .func (PySem.W.fnOf "area" "area" (defArgs s_area) (defBody s_area) (defScope s_area) .none kV_area dc_area pm_area an_area cd_area ct_area), sl_area⟩)
  (c_area : PySem.W.codeIn K cd_area "area" = true)
  (k_area : PySem.W.keepIn K (.ref f_area) = true)
  (a_cut_off : PySem.W.nsIn K mainGlobals "cut_off" = some (some (.ref f_cut_off)))
  (l_cut_off : K.lookup f_cut_off = some ⟨oc_cut_off, od_cut_off, .func (PySem.W.fnOf "cut_off" "cut_off" (defArgs s_cut_off) (defBody s_cut_off) (defScope s_cut_off) .none kV_cut_off dc_cut_off pm_cut_off an_cut_off cd_cut_off ct_cut_off), sl_cut_off⟩)
  (c_cut_off : PySem.W.codeIn K cd_cut_off "cut_off" = true)
  (k_cut_off : PySem.W.keepIn K (.ref f_cut_off) = true)
  (a_land_within : PySem.W.nsIn K mainGlobals "land_within" = some (some (.ref f_land_within)))
  (l_land_within : K.lookup f_land_within = some ⟨oc_land_within, od_land_within, .func (PySem.W.fnOf "land_within" "land_within" (defArgs s_land_within) (defBody s_land_within) (defScope s_land_within) .none kV_land_within dc_land_within pm_land_within an_land_within cd_land_within ct_land_within), sl_land_within⟩)
  (c_land_within : PySem.W.codeIn K cd_land_within "land_within" = true)
  (k_land_within : PySem.W.keepIn K (.ref f_land_within) = true)
  (a_takes : PySem.W.nsIn K mainGlobals "takes" = some (some (.ref f_takes)))
  (l_takes : K.lookup f_takes = some ⟨oc_takes, od_takes, .func (PySem.W.fnOf "takes" "takes" (defArgs s_takes) (defBody s_takes) (defScope s_takes) .none kV_takes dc_takes pm_takes an_takes cd_takes ct_takes), sl_takes⟩)
  (c_takes : PySem.W.codeIn K cd_takes "takes" = true)
  (k_takes : PySem.W.keepIn K (.ref f_takes) = true)
  (a__law_feed : PySem.W.nsIn K mainGlobals "_law_feed" = some (some (.ref f__law_feed)))
  (l__law_feed : K.lookup f__law_feed = some ⟨oc__law_feed, od__law_feed, .func (PySem.W.fnOf "_law_feed" "_law_feed" (defArgs s__law_feed) (defBody s__law_feed) (defScope s__law_feed) .none kV__law_feed dc__law_feed pm__law_feed an__law_feed cd__law_feed ct__law_feed), sl__law_feed⟩)
  (c__law_feed : PySem.W.codeIn K cd__law_feed "_law_feed" = true)
  (k__law_feed : PySem.W.keepIn K (.ref f__law_feed) = true)
  (a__law_next : PySem.W.nsIn K mainGlobals "_law_next" = some (some (.ref f__law_next)))
  (l__law_next : K.lookup f__law_next = some ⟨oc__law_next, od__law_next, .func (PySem.W.fnOf "_law_next" "_law_next" (defArgs s__law_next) (defBody s__law_next) (defScope s__law_next) .none kV__law_next dc__law_next pm__law_next an__law_next cd__law_next ct__law_next), sl__law_next⟩)
  (c__law_next : PySem.W.codeIn K cd__law_next "_law_next" = true)
  (k__law_next : PySem.W.keepIn K (.ref f__law_next) = true)
  (a__law_spots : PySem.W.nsIn K mainGlobals "_law_spots" = some (some (.ref f__law_spots)))
  (l__law_spots : K.lookup f__law_spots = some ⟨oc__law_spots, od__law_spots, .func (PySem.W.fnOf "_law_spots" "_law_spots" (defArgs s__law_spots) (defBody s__law_spots) (defScope s__law_spots) .none kV__law_spots dc__law_spots pm__law_spots an__law_spots cd__law_spots ct__law_spots), sl__law_spots⟩)
  (c__law_spots : PySem.W.codeIn K cd__law_spots "_law_spots" = true)
  (k__law_spots : PySem.W.keepIn K (.ref f__law_spots) = true)
  (a__law_full : PySem.W.nsIn K mainGlobals "_law_full" = some (some (.ref f__law_full)))
  (l__law_full : K.lookup f__law_full = some ⟨oc__law_full, od__law_full, .func (PySem.W.fnOf "_law_full" "_law_full" (defArgs s__law_full) (defBody s__law_full) (defScope s__law_full) .none kV__law_full dc__law_full pm__law_full an__law_full cd__law_full ct__law_full), sl__law_full⟩)
  (c__law_full : PySem.W.codeIn K cd__law_full "_law_full" = true)
  (k__law_full : PySem.W.keepIn K (.ref f__law_full) = true)
  (a__law_due : PySem.W.nsIn K mainGlobals "_law_due" = some (some (.ref f__law_due)))
  (l__law_due : K.lookup f__law_due = some ⟨oc__law_due, od__law_due, .func (PySem.W.fnOf "_law_due" "_law_due" (defArgs s__law_due) (defBody s__law_due) (defScope s__law_due) .none kV__law_due dc__law_due pm__law_due an__law_due cd__law_due ct__law_due), sl__law_due⟩)
  (c__law_due : PySem.W.codeIn K cd__law_due "_law_due" = true)
  (k__law_due : PySem.W.keepIn K (.ref f__law_due) = true)
  (a__law_told : PySem.W.nsIn K mainGlobals "_law_told" = some (some (.ref f__law_told)))
  (l__law_told : K.lookup f__law_told = some ⟨oc__law_told, od__law_told, .func (PySem.W.fnOf "_law_told" "_law_told" (defArgs s__law_told) (defBody s__law_told) (defScope s__law_told) .none kV__law_told dc__law_told pm__law_told an__law_told cd__law_told ct__law_told), sl__law_told⟩)
  (c__law_told : PySem.W.codeIn K cd__law_told "_law_told" = true)
  (k__law_told : PySem.W.keepIn K (.ref f__law_told) = true)
  (a_law : PySem.W.nsIn K mainGlobals "law" = some (some (.ref f_law)))
  (l_law : K.lookup f_law = some ⟨oc_law, od_law, .func (PySem.W.fnOf "law" "law" (defArgs s_law) (defBody s_law) (defScope s_law) .none kV_law dc_law pm_law an_law cd_law ct_law), sl_law⟩)
  (c_law : PySem.W.codeIn K cd_law "law" = true)
  (k_law : PySem.W.keepIn K (.ref f_law) = true)
  (z_abs : PySem.W.nsIn K mainGlobals "abs" = some none)
  (z_enumerate : PySem.W.nsIn K mainGlobals "enumerate" = some none)
  (z_isinstance : PySem.W.nsIn K mainGlobals "isinstance" = some none)
  (z_len : PySem.W.nsIn K mainGlobals "len" = some none)
  (z_list : PySem.W.nsIn K mainGlobals "list" = some none)
  (z_max : PySem.W.nsIn K mainGlobals "max" = some none)
  (z_min : PySem.W.nsIn K mainGlobals "min" = some none)
  (z_range : PySem.W.nsIn K mainGlobals "range" = some none)
  (z_super : PySem.W.nsIn K mainGlobals "super" = some none)
  (z_zip : PySem.W.nsIn K mainGlobals "zip" = some none)
  (a_MOST_SPOTS : PySem.W.nsIn K mainGlobals "MOST_SPOTS" = some (some (.int 12 tk_MOST_SPOTS)))
  (a_LandError : PySem.W.nsIn K mainGlobals "LandError" = some (some (.ref cl_LandError)))
  (a_NoBox : PySem.W.nsIn K mainGlobals "NoBox" = some (some (.ref cl_NoBox)))
  (a_TooMany : PySem.W.nsIn K mainGlobals "TooMany" = some (some (.ref cl_TooMany)))
  (a_NoSpot : PySem.W.nsIn K mainGlobals "NoSpot" = some (some (.ref cl_NoSpot)))
  (a_NoLot : PySem.W.nsIn K mainGlobals "NoLot" = some (some (.ref cl_NoLot)))
  (a_Unknown : PySem.W.nsIn K mainGlobals "Unknown" = some (some (.ref cl_Unknown)))
  (x1_NoBox : PySem.W.excIn K cl_NoBox [.type "ValueError", .type "Exception", .type "BaseException", .type "object"] "ValueError.__new__" = true)
  (x2_NoBox : PySem.W.findIn K (.ref cl_NoBox) "__getattribute__" = some (some (.builtin "BaseException.__getattribute__")))
  (x3_NoBox : PySem.W.findIn K (.ref cl_NoBox) "__getattr__" = some none)
  (x4_NoBox : PySem.W.findIn K (.ref cl_NoBox) "__class__" = some (some (.builtin "object.__class__")))
  (x5_NoBox : PySem.W.specialIn K (.builtin "object.__class__") "__get__" = some (some (.builtin "getset_descriptor.__get__")))
  (x6_NoBox : PySem.W.takesIn K (.builtin "object.__class__") = some true)
  (x7_NoBox : PySem.W.clsIn K cl_NoBox = some cdt_NoBox)
  (x8_NoBox : PySem.W.mroIn K cl_NoBox (.type "BaseException") = some true)
  (x9_NoBox : PySem.W.mroIn K cl_NoBox (.type "object") = some true)
  (x1_TooMany : PySem.W.excIn K cl_TooMany [.type "ValueError", .type "Exception", .type "BaseException", .type "object"] "ValueError.__new__" = true)
  (x2_TooMany : PySem.W.findIn K (.ref cl_TooMany) "__getattribute__" = some (some (.builtin "BaseException.__getattribute__")))
  (x3_TooMany : PySem.W.findIn K (.ref cl_TooMany) "__getattr__" = some none)
  (x4_TooMany : PySem.W.findIn K (.ref cl_TooMany) "__class__" = some (some (.builtin "object.__class__")))
  (x5_TooMany : PySem.W.specialIn K (.builtin "object.__class__") "__get__" = some (some (.builtin "getset_descriptor.__get__")))
  (x6_TooMany : PySem.W.takesIn K (.builtin "object.__class__") = some true)
  (x7_TooMany : PySem.W.clsIn K cl_TooMany = some cdt_TooMany)
  (x8_TooMany : PySem.W.mroIn K cl_TooMany (.type "BaseException") = some true)
  (x9_TooMany : PySem.W.mroIn K cl_TooMany (.type "object") = some true)
  (y1_ : K.lookup cl_NoSpot = some (excClassObj ynm yq cl_NoSpot yN ybs (.ref yD :: veB) true ysn ysub yab ycol ydd yk0 yk1 yk2 yk3 yk5 "ValueError.__new__"))
  (y2_ : PySem.W.tailIn K veB (.ref yD :: veB) = true)
  (y3_ : PySem.W.nsOkIn K yN = true)
  (y4_ : PySem.W.nsIn K yN "__init__" = some (some (.ref yfI)))
  (y5_ : PySem.W.alongIn K "__init__" (.ref yD :: veB) = some (some veInit))
  (y6_ : K.lookup yfI = some ⟨.type "function", yod, .func (PySem.W.fnX "__init__" yqual (initParams ⟨14, 17, 14, 21⟩ ⟨14, 23, 14, 25⟩) (initBody yx yn ⟨15, 8, 15, 13⟩ ⟨15, 8, 15, 15⟩ ⟨15, 8, 15, 24⟩ ⟨15, 25, 15, 46⟩ ⟨15, 8, 15, 47⟩ ⟨15, 8, 15, 47⟩ ⟨16, 8, 16, 12⟩ ⟨16, 8, 16, 15⟩ ⟨16, 18, 16, 20⟩ ⟨16, 8, 16, 20⟩) initScope [("__class__", ycc)] .none ykV ydoc ypm yan (.ref ycda) yct), yosl⟩)
  (y7_ : PySem.W.codeIn K (.ref ycda) yqual = true)
  (y8_ : K.lookup ycc = some ⟨yccl, yccd, .cell (some (.ref cl_NoSpot)), yccs⟩)
  (y9_ : K.lookup ycda = some ⟨ycdl, ycdd, .fields yvs, ycds⟩)
  (y10_ : yvs[2]? = some (.str yfile ytf))
  (y11_ : (l.prog.main.file == yfile) = true)
  (y12_ : (l.prog.main.scope.names.lookup ("super" : Str)).isSome = false)
  (y14_ : PySem.W.nsIn K cStatics "thirdparty.any" = some none)
  (y15_ : PySem.W.mroIn K cl_NoSpot (.ref cl_NoSpot) = some true)
  (y16_ : PySem.W.mroIn K cl_NoSpot (.type "ValueError") = some true)
  (y17_ : PySem.W.mroIn K cl_NoSpot (.type "object") = some true)
  (y18_ : (PySem.W.findIn K (.ref cl_NoSpot) "__setattr__" = some (some (.builtin "object.__setattr__"))))
  (y19_ : (PySem.W.findIn K (.ref cl_NoSpot) "at" = some none))
  (y20_ : PySem.W.keepIn K (.ref cl_NoSpot) = true)
  (y21_ : (PySem.W.findIn K (.ref cl_NoSpot) "__getattribute__" = some (some (.builtin "BaseException.__getattribute__"))))
  (y22_ : (PySem.W.findIn K (.ref cl_NoSpot) "__getattr__" = some none))
  (y23_ : (PySem.W.findIn K (.ref cl_NoSpot) "__class__" = some (some (.builtin "object.__class__"))))
  (y24_ : PySem.W.specialIn K (.builtin "object.__class__") "__get__" = some (some (.builtin "getset_descriptor.__get__")))
  (y25_ : PySem.W.takesIn K (.builtin "object.__class__") = some true)
  (y26_ : PySem.W.clsIn K cl_NoSpot = some ycdt)
  (y27_ : PySem.W.mroIn K cl_NoSpot (.type "BaseException") = some true)
  (y28_ : PySem.W.hasDictIn K cl_NoSpot = true)
  (m_NoBox_LandError : PySem.W.exmOne K (.ref cl_NoBox) (.ref cl_LandError) = some true)
  (m_TooMany_LandError : PySem.W.exmOne K (.ref cl_TooMany) (.ref cl_LandError) = some true)
  (m_NoSpot_LandError : PySem.W.exmOne K (.ref cl_NoSpot) (.ref cl_LandError) = some true)
  (i_NoBox_NoBox : PySem.W.kitOne K (.ref cl_NoBox) (.ref cl_NoBox) = some true)
  (i_NoBox_TooMany : PySem.W.kitOne K (.ref cl_NoBox) (.ref cl_TooMany) = some false)
  (i_NoBox_NoSpot : PySem.W.kitOne K (.ref cl_NoBox) (.ref cl_NoSpot) = some false)
  (i_TooMany_NoBox : PySem.W.kitOne K (.ref cl_TooMany) (.ref cl_NoBox) = some false)
  (i_TooMany_TooMany : PySem.W.kitOne K (.ref cl_TooMany) (.ref cl_TooMany) = some true)
  (i_TooMany_NoSpot : PySem.W.kitOne K (.ref cl_TooMany) (.ref cl_NoSpot) = some false)
  (i_NoSpot_NoBox : PySem.W.kitOne K (.ref cl_NoSpot) (.ref cl_NoBox) = some false)
  (i_NoSpot_TooMany : PySem.W.kitOne K (.ref cl_NoSpot) (.ref cl_TooMany) = some false)
  (i_NoSpot_NoSpot : PySem.W.kitOne K (.ref cl_NoSpot) (.ref cl_NoSpot) = some true)
  (j_NoBox_NoLot_Unknown : PySem.W.kitAny K (.ref cl_NoBox) [(.ref cl_NoLot), (.ref cl_Unknown)] = some false)
  (j_TooMany_NoLot_Unknown : PySem.W.kitAny K (.ref cl_TooMany) [(.ref cl_NoLot), (.ref cl_Unknown)] = some false)
  (j_NoSpot_NoLot_Unknown : PySem.W.kitAny K (.ref cl_NoSpot) [(.ref cl_NoLot), (.ref cl_Unknown)] = some false) :
  ∃ fd : FuncData, (∀ (s : Shared) (v : Value), BindsTo s fd ⟨[v], []⟩ [("_law_script", v)]) ∧ ∀ base : Heap, K.In base → base.Ns mainGlobals mg → FnOk l.prog w K mg base (CXE l.prog w) 11 fa fd ["_law_script"] (sp_law K) := by
 have e := hfa.symm.trans (PySem.W.mg_of X G a_law)
 cases e
 have T : Txt l.prog K mg ⟨cl_LandError, cl_NoBox, cl_TooMany, cl_NoSpot, cl_NoLot, cl_Unknown⟩ := ⟨PySem.W.mg_none_of X G z_abs, PySem.W.mg_none_of X G z_enumerate, PySem.W.mg_none_of X G z_isinstance, PySem.W.mg_none_of X G z_len, PySem.W.mg_none_of X G z_list, PySem.W.mg_none_of X G z_max, PySem.W.mg_none_of X G z_min, PySem.W.mg_none_of X G z_range, PySem.W.mg_none_of X G z_super, PySem.W.mg_none_of X G z_zip, ⟨_, ⟨_, _, _, _, _, _, _, _, _, _, _, _, _, _, _, y1_, y2_, y3_, y4_, y5_⟩, ⟨_, ⟨14, 17, 14, 21⟩, ⟨14, 23, 14, 25⟩, _, _, ⟨15, 8, 15, 13⟩, ⟨15, 8, 15, 15⟩, ⟨15, 8, 15, 24⟩, ⟨15, 25, 15, 46⟩, ⟨15, 8, 15, 47⟩, ⟨15, 8, 15, 47⟩, ⟨16, 8, 16, 12⟩, ⟨16, 8, 16, 15⟩, ⟨16, 18, 16, 20⟩, ⟨16, 8, 16, 20⟩, _, _, _, _, _, _, _, _, _, _, _, _, _, _, _, _, _, _, y6_, y7_, y8_, y9_, y10_, y11_, y12_, rfl⟩, y14_, y15_, y16_, y17_, y18_, y19_⟩, y20_, ⟨y21_, y22_, y23_, y24_, y25_, by rw [y26_]; rfl, y27_, y17_⟩, y19_, y28_, PySem.W.mg_of X G a_LandError, PySem.W.mg_of X G a_NoBox, PySem.W.mg_of X G a_TooMany, PySem.W.mg_of X G a_NoSpot, PySem.W.mg_of X G a_NoLot, PySem.W.mg_of X G a_Unknown, ⟨x1_NoBox, x2_NoBox, x3_NoBox, x4_NoBox, x5_NoBox, x6_NoBox, (by rw [x7_NoBox]; rfl), x8_NoBox, x9_NoBox⟩, ⟨x1_TooMany, x2_TooMany, x3_TooMany, x4_TooMany, x5_TooMany, x6_TooMany, (by rw [x7_TooMany]; rfl), x8_TooMany, x9_TooMany⟩, ⟨_, PySem.W.mg_of X G a_MOST_SPOTS⟩, m_NoBox_LandError, m_TooMany_LandError, m_NoSpot_LandError, i_NoBox_NoBox, i_NoBox_TooMany, i_NoBox_NoSpot, i_TooMany_NoBox, i_TooMany_TooMany, i_TooMany_NoSpot, i_NoSpot_NoBox, i_NoSpot_TooMany, i_NoSpot_NoSpot, j_NoBox_NoLot_Unknown, j_TooMany_NoLot_Unknown, j_NoSpot_NoLot_Unknown⟩
 have U_divisor := fun_mk (st := s_divisor) l_divisor c_divisor k_divisor
 have B_divisor := U_divisor.binds (ps := ["one", "other"]) fun _ _ _ _ _ _ us hl => by obtain ⟨u0, u1, rfl⟩ := len_2 hl; rfl
 have U_sign := fun_mk (st := s_sign) l_sign c_sign k_sign
 have B_sign := U_sign.binds (ps := ["number"]) fun _ _ _ _ _ _ us hl => by obtain ⟨u0, rfl⟩ := len_1 hl; rfl
 have U_point_of := fun_mk (st := s_point_of) l_point_of c_point_of k_point_of
 have B_point_of := U_point_of.binds (ps := ["x", "y", "w"]) fun _ _ _ _ _ _ us hl => by obtain ⟨u0, u1, u2, rfl⟩ := len_3 hl; rfl
 have U_spot_point := fun_mk (st := s_spot_point) l_spot_point c_spot_point k_spot_point
 have B_spot_point := U_spot_point.binds (ps := ["spot"]) fun _ _ _ _ _ _ us hl => by obtain ⟨u0, rfl⟩ := len_1 hl; rfl
 have U_fraction_of := fun_mk (st := s_fraction_of) l_fraction_of c_fraction_of k_fraction_of
 have B_fraction_of := U_fraction_of.binds (ps := ["top", "bottom"]) fun _ _ _ _ _ _ us hl => by obtain ⟨u0, u1, rfl⟩ := len_2 hl; rfl
 have U_difference := fun_mk (st := s_difference) l_difference c_difference k_difference
 have B_difference := U_difference.binds (ps := ["one", "other"]) fun _ _ _ _ _ _ us hl => by obtain ⟨u0, u1, rfl⟩ := len_2 hl; rfl
 have U_ahead := fun_mk (st := s_ahead) l_ahead c_ahead k_ahead
 have B_ahead := U_ahead.binds (ps := ["one", "other"]) fun _ _ _ _ _ _ us hl => by obtain ⟨u0, u1, rfl⟩ := len_2 hl; rfl
 have U_line_of := fun_mk (st := s_line_of) l_line_of c_line_of k_line_of
 have B_line_of := U_line_of.binds (ps := ["a", "b", "c"]) fun _ _ _ _ _ _ us hl => by obtain ⟨u0, u1, u2, rfl⟩ := len_3 hl; rfl
 have U_between := fun_mk (st := s_between) l_between c_between k_between
 have B_between := U_between.binds (ps := ["one", "other"]) fun _ _ _ _ _ _ us hl => by obtain ⟨u0, u1, rfl⟩ := len_2 hl; rfl
 have U_excess := fun_mk (st := s_excess) l_excess c_excess k_excess
 have B_excess := U_excess.binds (ps := ["line", "point"]) fun _ _ _ _ _ _ us hl => by obtain ⟨u0, u1, rfl⟩ := len_2 hl; rfl
 have U_check_box := fun_mk (st := s_check_box) l_check_box c_check_box k_check_box
 have B_check_box := U_check_box.binds (ps := ["box"]) fun _ _ _ _ _ _ us hl => by obtain ⟨u0, rfl⟩ := len_1 hl; rfl
 have U_has_point := fun_mk (st := s_has_point) l_has_point c_has_point k_has_point
 have B_has_point := U_has_point.binds (ps := ["box", "point"]) fun _ _ _ _ _ _ us hl => by obtain ⟨u0, u1, rfl⟩ := len_2 hl; rfl
 have U_in_box := fun_mk (st := s_in_box) l_in_box c_in_box k_in_box
 have B_in_box := U_in_box.binds (ps := ["box", "spot"]) fun _ _ _ _ _ _ us hl => by obtain ⟨u0, u1, rfl⟩ := len_2 hl; rfl
 have U_check_count := fun_mk (st := s_check_count) l_check_count c_check_count k_check_count
 have B_check_count := U_check_count.binds (ps := ["spots"]) fun _ _ _ _ _ _ us hl => by obtain ⟨u0, rfl⟩ := len_1 hl; rfl
 have U_check_box_and_spots := fun_mk (st := s_check_box_and_spots) l_check_box_and_spots c_check_box_and_spots k_check_box_and_spots
 have B_check_box_and_spots := U_check_box_and_spots.binds (ps := ["box", "spots"]) fun _ _ _ _ _ _ us hl => by obtain ⟨u0, u1, rfl⟩ := len_2 hl; rfl
 have U_others_of := fun_mk (st := s_others_of) l_others_of c_others_of k_others_of
 have B_others_of := U_others_of.binds (ps := ["spots", "number"]) fun _ _ _ _ _ _ us hl => by obtain ⟨u0, u1, rfl⟩ := len_2 hl; rfl
 have U_box_field := fun_mk (st := s_box_field) l_box_field c_box_field k_box_field
 have B_box_field := U_box_field.binds (ps := ["box"]) fun _ _ _ _ _ _ us hl => by obtain ⟨u0, rfl⟩ := len_1 hl; rfl
 have U_crossing := fun_mk (st := s_crossing) l_crossing c_crossing k_crossing
 have B_crossing := U_crossing.binds (ps := ["one", "other", "here", "there"]) fun _ _ _ _ _ _ us hl => by obtain ⟨u0, u1, u2, u3, rfl⟩ := len_4 hl; rfl
 have U_rest := fun_mk (st := s_rest) l_rest c_rest k_rest
 have B_rest := U_rest.binds (ps := ["corners", "edges", "excesses", "number"]) fun _ _ _ _ _ _ us hl => by obtain ⟨u0, u1, u2, u3, rfl⟩ := len_4 hl; rfl
 have U_from_first := fun_mk (st := s_from_first) l_from_first c_from_first k_from_first
 have B_from_first := U_from_first.binds (ps := ["rows"]) fun _ _ _ _ _ _ us hl => by obtain ⟨u0, rfl⟩ := len_1 hl; rfl
 have U_cut := fun_mk (st := s_cut) l_cut c_cut k_cut
 have B_cut := U_cut.binds (ps := ["field", "line", "number"]) fun _ _ _ _ _ _ us hl => by obtain ⟨u0, u1, u2, rfl⟩ := len_3 hl; rfl
 have U_cut_each := fun_mk (st := s_cut_each) l_cut_each c_cut_each k_cut_each
 have B_cut_each := U_cut_each.binds (ps := ["field", "cuts"]) fun _ _ _ _ _ _ us hl => by obtain ⟨u0, u1, rfl⟩ := len_2 hl; rfl
 have U_area := fun_mk (st := s_area) l_area c_area k_area
 have B_area := U_area.binds (ps := ["field"]) fun _ _ _ _ _ _ us hl => by obtain ⟨u0, rfl⟩ := len_1 hl; rfl
 have U_cut_off := fun_mk (st := s_cut_off) l_cut_off c_cut_off k_cut_off
 have B_cut_off := U_cut_off.binds (ps := ["field", "spots", "number", "others"]) fun _ _ _ _ _ _ us hl => by obtain ⟨u0, u1, u2, u3, rfl⟩ := len_4 hl; rfl
 have U_land_within := fun_mk (st := s_land_within) l_land_within c_land_within k_land_within
 have B_land_within := U_land_within.binds (ps := ["box", "spots", "number"]) fun _ _ _ _ _ _ us hl => by obtain ⟨u0, u1, u2, rfl⟩ := len_3 hl; rfl
 have U_takes := fun_mk (st := s_takes) l_takes c_takes k_takes
 have B_takes := U_takes.binds (ps := ["box", "spots", "spot"]) fun _ _ _ _ _ _ us hl => by obtain ⟨u0, u1, u2, rfl⟩ := len_3 hl; rfl
 have U__law_feed := fun_mk (st := s__law_feed) l__law_feed c__law_feed k__law_feed
 have B__law_feed := U__law_feed.binds (ps := ["_law_script", "_law_k"]) fun _ _ _ _ _ _ us hl => by obtain ⟨u0, u1, rfl⟩ := len_2 hl; rfl
 have U__law_next := fun_mk (st := s__law_next) l__law_next c__law_next k__law_next
 have B__law_next := U__law_next.binds (ps := ["_law_feed_here", "_law_many"]) fun _ _ _ _ _ _ us hl => by obtain ⟨u0, u1, rfl⟩ := len_2 hl; rfl
 have U__law_spots := fun_mk (st := s__law_spots) l__law_spots c__law_spots k__law_spots
 have B__law_spots := U__law_spots.binds (ps := ["_law_feed_here", "_law_box"]) fun _ _ _ _ _ _ us hl => by obtain ⟨u0, u1, rfl⟩ := len_2 hl; rfl
 have U__law_full := fun_mk (st := s__law_full) l__law_full c__law_full k__law_full
 have B__law_full := U__law_full.binds (ps := ["_law_feed_here", "_law_box"]) fun _ _ _ _ _ _ us hl => by obtain ⟨u0, u1, rfl⟩ := len_2 hl; rfl
 have U__law_due := fun_mk (st := s__law_due) l__law_due c__law_due k__law_due
 have B__law_due := U__law_due.binds (ps := ["_law_box", "_law_spots_here", "_law_spot"]) fun _ _ _ _ _ _ us hl => by obtain ⟨u0, u1, u2, rfl⟩ := len_3 hl; rfl
 have U__law_told := fun_mk (st := s__law_told) l__law_told c__law_told k__law_told
 have B__law_told := U__law_told.binds (ps := ["_law_box", "_law_spots_here", "_law_spot"]) fun _ _ _ _ _ _ us hl => by obtain ⟨u0, u1, u2, rfl⟩ := len_3 hl; rfl
 have U_law := fun_mk (st := s_law) l_law c_law k_law
 refine ⟨PySem.W.fnOf "law" "law" (defArgs s_law) (defBody s_law) (defScope s_law) .none kV_law dc_law pm_law an_law cd_law ct_law, fun s v => .of_eq rfl, fun base _ _ => ?_⟩
 have F_divisor : FnB l.prog w K mg base (CXE l.prog w) 1 "divisor" ["one", "other"] sp_divisor := .of (ok_divisor U_divisor T ) (PySem.W.mg_of X G a_divisor) k_divisor B_divisor
 have F_sign : FnB l.prog w K mg base (CXE l.prog w) 1 "sign" ["number"] sp_sign := .of (ok_sign U_sign T ) (PySem.W.mg_of X G a_sign) k_sign B_sign
 have F_point_of : FnB l.prog w K mg base (CXE l.prog w) 2 "point_of" ["x", "y", "w"] sp_point_of := .of (ok_point_of U_point_of T F_divisor F_sign) (PySem.W.mg_of X G a_point_of) k_point_of B_point_of
 have F_spot_point : FnB l.prog w K mg base (CXE l.prog w) 1 "spot_point" ["spot"] sp_spot_point := .of (ok_spot_point U_spot_point T ) (PySem.W.mg_of X G a_spot_point) k_spot_point B_spot_point
 have F_fraction_of : FnB l.prog w K mg base (CXE l.prog w) 2 "fraction_of" ["top", "bottom"] sp_fraction_of := .of (ok_fraction_of U_fraction_of T F_divisor F_sign) (PySem.W.mg_of X G a_fraction_of) k_fraction_of B_fraction_of
 have F_difference : FnB l.prog w K mg base (CXE l.prog w) 3 "difference" ["one", "other"] sp_difference := .of (ok_difference U_difference T F_fraction_of) (PySem.W.mg_of X G a_difference) k_difference B_difference
 have F_ahead : FnB l.prog w K mg base (CXE l.prog w) 1 "ahead" ["one", "other"] sp_ahead := .of (ok_ahead U_ahead T ) (PySem.W.mg_of X G a_ahead) k_ahead B_ahead
 have F_line_of : FnB l.prog w K mg base (CXE l.prog w) 2 "line_of" ["a", "b", "c"] sp_line_of := .of (ok_line_of U_line_of T F_divisor) (PySem.W.mg_of X G a_line_of) k_line_of B_line_of
 have F_between : FnB l.prog w K mg base (CXE l.prog w) 3 "between" ["one", "other"] sp_between := .of (ok_between U_between T F_line_of) (PySem.W.mg_of X G a_between) k_between B_between
 have F_excess : FnB l.prog w K mg base (CXE l.prog w) 1 "excess" ["line", "point"] sp_excess := .of (ok_excess U_excess T ) (PySem.W.mg_of X G a_excess) k_excess B_excess
 have F_check_box : FnB l.prog w K mg base (CXE l.prog w) 1 "check_box" ["box"] (sp_check_boxE ⟨cl_LandError, cl_NoBox, cl_TooMany, cl_NoSpot, cl_NoLot, cl_Unknown⟩) := .of (ok_check_box U_check_box T ) (PySem.W.mg_of X G a_check_box) k_check_box B_check_box
 have F_has_point : FnB l.prog w K mg base (CXE l.prog w) 1 "has_point" ["box", "point"] sp_has_point := .of (ok_has_point U_has_point T ) (PySem.W.mg_of X G a_has_point) k_has_point B_has_point
 have F_in_box : FnB l.prog w K mg base (CXE l.prog w) 2 "in_box" ["box", "spot"] sp_in_boxB := .of (ok_in_box U_in_box T F_spot_point F_has_point) (PySem.W.mg_of X G a_in_box) k_in_box B_in_box
 have F_check_count : FnB l.prog w K mg base (CXE l.prog w) 1 "check_count" ["spots"] (sp_check_countE ⟨cl_LandError, cl_NoBox, cl_TooMany, cl_NoSpot, cl_NoLot, cl_Unknown⟩) := .of (ok_check_count U_check_count T ) (PySem.W.mg_of X G a_check_count) k_check_count B_check_count
 have F_check_box_and_spots : FnB l.prog w K mg base (CXE l.prog w) 3 "check_box_and_spots" ["box", "spots"] (sp_cbsE K ⟨cl_LandError, cl_NoBox, cl_TooMany, cl_NoSpot, cl_NoLot, cl_Unknown⟩) := .of (ok_check_box_and_spots U_check_box_and_spots T F_in_box F_check_count F_check_box) (PySem.W.mg_of X G a_check_box_and_spots) k_check_box_and_spots B_check_box_and_spots
 have F_others_of : FnB l.prog w K mg base (CXE l.prog w) 1 "others_of" ["spots", "number"] sp_others := .of (ok_others_of U_others_of T ) (PySem.W.mg_of X G a_others_of) k_others_of B_others_of
 have F_box_field : FnB l.prog w K mg base (CXE l.prog w) 2 "box_field" ["box"] sp_box_field := .of (ok_box_field U_box_field T (F_check_box.imp fun _ _ _ _ => box_weak)) (PySem.W.mg_of X G a_box_field) k_box_field B_box_field
 have F_crossing : FnB l.prog w K mg base (CXE l.prog w) 3 "crossing" ["one", "other", "here", "there"] sp_crossing := .of (ok_crossing U_crossing T F_point_of) (PySem.W.mg_of X G a_crossing) k_crossing B_crossing
 have F_rest : FnB l.prog w K mg base (CXE l.prog w) 4 "rest" ["corners", "edges", "excesses", "number"] (sp_rest K) := .of (ok_rest U_rest T F_crossing) (PySem.W.mg_of X G a_rest) k_rest B_rest
 have F_from_first : FnB l.prog w K mg base (CXE l.prog w) 2 "from_first" ["rows"] (sp_from_first K) := .of (ok_from_first U_from_first T F_ahead) (PySem.W.mg_of X G a_from_first) k_from_first B_from_first
 have F_cut : FnB l.prog w K mg base (CXE l.prog w) 5 "cut" ["field", "line", "number"] (sp_cut K) := .of (ok_cut U_cut T F_rest F_from_first F_excess) (PySem.W.mg_of X G a_cut) k_cut B_cut
 have F_cut_each : FnB l.prog w K mg base (CXE l.prog w) 6 "cut_each" ["field", "cuts"] (sp_cuteach K) := .of (ok_cut_each U_cut_each T F_cut) (PySem.W.mg_of X G a_cut_each) k_cut_each B_cut_each
 have F_area : FnB l.prog w K mg base (CXE l.prog w) 3 "area" ["field"] (sp_area K) := .of (ok_area U_area T F_fraction_of) (PySem.W.mg_of X G a_area) k_area B_area
 have F_cut_off : FnB l.prog w K mg base (CXE l.prog w) 7 "cut_off" ["field", "spots", "number", "others"] (sp_cutoff K) := .of (ok_cut_off U_cut_off T F_between F_cut_each) (PySem.W.mg_of X G a_cut_off) k_cut_off B_cut_off
 have F_land_within : FnB l.prog w K mg base (CXE l.prog w) 8 "land_within" ["box", "spots", "number"] (sp_landw K) := .of (ok_land_within U_land_within T F_others_of F_box_field F_cut_off) (PySem.W.mg_of X G a_land_within) k_land_within B_land_within
 have F_takes : FnB l.prog w K mg base (CXE l.prog w) 9 "takes" ["box", "spots", "spot"] (sp_takesE K ⟨cl_LandError, cl_NoBox, cl_TooMany, cl_NoSpot, cl_NoLot, cl_Unknown⟩) := .of (ok_takes U_takes T (F_area.imp fun _ _ _ _ => area_weak) F_difference F_between F_cut F_land_within F_check_box_and_spots) (PySem.W.mg_of X G a_takes) k_takes B_takes
 have F__law_feed : FnB l.prog w K mg base (CXE l.prog w) 1 "_law_feed" ["_law_script", "_law_k"] (sp_feed K) := .of (ok__law_feed U__law_feed T ) (PySem.W.mg_of X G a__law_feed) k__law_feed B__law_feed
 have F__law_next : FnB l.prog w K mg base (CXE l.prog w) 1 "_law_next" ["_law_feed_here", "_law_many"] sp_next := .of (ok__law_next U__law_next T ) (PySem.W.mg_of X G a__law_next) k__law_next B__law_next
 have F__law_spots : FnB l.prog w K mg base (CXE l.prog w) 2 "_law_spots" ["_law_feed_here", "_law_box"] (sp_spots K) := .of (ok__law_spots U__law_spots T F__law_next) (PySem.W.mg_of X G a__law_spots) k__law_spots B__law_spots
 have F__law_full : FnB l.prog w K mg base (CXE l.prog w) 2 "_law_full" ["_law_feed_here", "_law_box"] (sp_full K) := .of (ok__law_full U__law_full T F__law_next) (PySem.W.mg_of X G a__law_full) k__law_full B__law_full
 have F__law_due : FnB l.prog w K mg base (CXE l.prog w) 1 "_law_due" ["_law_box", "_law_spots_here", "_law_spot"] (sp_due K) := .of (ok__law_due U__law_due T ) (PySem.W.mg_of X G a__law_due) k__law_due B__law_due
 have F__law_told : FnB l.prog w K mg base (CXE l.prog w) 10 "_law_told" ["_law_box", "_law_spots_here", "_law_spot"] (sp_told K) := .of (ok__law_told U__law_told T F_takes) (PySem.W.mg_of X G a__law_told) k__law_told B__law_told
 exact ok_law U_law T F__law_told F__law_due F__law_next F__law_full F__law_spots F__law_feed
theorem walk {l : PySem.W.OpenLaw} {q : Program} {loose : List Str} {XP : (Str → Option Value) → Heap → Prop} {YP : World → Heap → Prop} {d : DefRec} {K : Params → PySem.W.Frag} (hn : l.most = some 63) (hdf : d.params.defaults = [])
  (hY : ∀ (w : World) (h : Heap), YP w h → (K w.params).In h)
  (F : ∀ (w : World) (mg : Str → Option Value) (fa : Addr) (h : Heap), (K w.params).In h → h.Ns mainGlobals mg → mg d.name = some (.ref fa) →
   ∃ fd : FuncData, (∀ (s : Shared) (u : Value), BindsTo s fd ⟨[u], []⟩ [("_law_script", u)]) ∧ ∀ base : Heap, (K w.params).In base → base.Ns mainGlobals mg → FnOk l.prog w (K w.params) mg base (CXE l.prog w) 11 fa fd ["_law_script"] (sp_law (K w.params))) :
  PySem.W.WalkO q loose XP YP l.row.toRowW d [] (fun f vs => PySem.call f vs) :=
 L2.walk_of (n := 63) (k := 11) (x := "_law_script") (CX := fun w => (CXE l.prog w)) (sp := fun w => sp_law (K w.params)) hn (by decide) hdf ⟨rfl, by decide, by decide⟩ hY F (fun _ _ a ns hl _ hS => ⟨a, ns, rfl, hS, hl, fun _ => rfl⟩) fun _ _ _ _ _ z => (by obtain ⟨_, _, _, _, _, _, _, _, _, _, _, _, _, _, _, hE⟩ := z; exact hE)
end LW
end
namespace LW
open PySem
noncomputable def isN : Stmt → Bool
 | .Assign [.Name x _] _ _ => x == ("__name__" : Str)
 | _ => false
noncomputable def qv : Program := { PySem.Challenge.pw_nearlands_k28_takes_refused with main := { PySem.Challenge.pw_nearlands_k28_takes_refused.main with body := PySem.Challenge.pw_nearlands_k28_takes_refused.main.body.filter fun s => !isN s } }
end LW
open PySem PySem.W PyProof.Rows
local macro_rules | `(tactic| o_head $H) => `(tactic| (refine holds_open (q := LW.qv) (loose := []) (Xt := fun s => xlAt LW.qv [] s && recOk (RowW.records PySem.Challenge.rw_nearlands_k28_takes_refused.row.toRowW) s) (XP := XL LW.qv []) (Yf := Hook.obs $H) (Ya := Hook.val $H) (YP := Hook.says $H) (N := 30000) ?hl (Hook.of $H) (Hook.keeps $H) (fun s e => xl_of s (Bool.and_eq_true_iff.mp e).1) XL.keeps (by rfl) (by rfl) (by rfl) (fun s e => recFacts_of (Bool.and_eq_true_iff.mp e).2) (by rfl) (by first | assumption | decide +kernel) (by decide +kernel) ⟨rfl, rfl, rfl, rfl, rfl, by decide +kernel⟩ ?hw ?hc))
set_option maxRecDepth 100000 in
set_option maxHeartbeats 0 in
theorem PySem.Challenge.cw_nearlands_k28_takes_refused_holds : PySem.Challenge.rw_nearlands_k28_takes_refused.Holds := by
 w_on; o_law; k_head
 case hl =>
  intro w
  unfold openEnds fencedOpening topFrom
  rw [Fast.te10274390034422433532, Fast.te14082659384304107361, Fast.te14289696077712309145, Fast.te4187177175401517315, Fast.te1435165496053646825, Fast.te14364793385576792824]
  kernel_rfl
 case hw => w_witness2
 k_fill
 refine LW.walk (l := PySem.Challenge.rw_nearlands_k28_takes_refused) rfl rfl (fun w h Y => PySem.W.kIn_of Y) ?F
 case F =>
  intro w mg fa h KX G hmg
  refine' LW.all_mk KX G hmg ?a_divisor ?l_divisor ?c_divisor ?k_divisor ?a_sign ?l_sign ?c_sign ?k_sign ?a_point_of ?l_point_of ?c_point_of ?k_point_of ?a_spot_point ?l_spot_point ?c_spot_point ?k_spot_point ?a_fraction_of ?l_fraction_of ?c_fraction_of ?k_fraction_of ?a_difference ?l_difference ?c_difference ?k_difference ?a_ahead ?l_ahead ?c_ahead ?k_ahead ?a_line_of ?l_line_of ?c_line_of ?k_line_of ?a_between ?l_between ?c_between ?k_between ?a_excess ?l_excess ?c_excess ?k_excess ?a_check_box ?l_check_box ?c_check_box ?k_check_box ?a_has_point ?l_has_point ?c_has_point ?k_has_point ?a_in_box ?l_in_box ?c_in_box ?k_in_box ?a_check_count ?l_check_count ?c_check_count ?k_check_count ?a_check_box_and_spots ?l_check_box_and_spots ?c_check_box_and_spots ?k_check_box_and_spots ?a_others_of ?l_others_of ?c_others_of ?k_others_of ?a_box_field ?l_box_field ?c_box_field ?k_box_field ?a_crossing ?l_crossing ?c_crossing ?k_crossing ?a_rest ?l_rest ?c_rest ?k_rest ?a_from_first ?l_from_first ?c_from_first ?k_from_first ?a_cut ?l_cut ?c_cut ?k_cut ?a_cut_each ?l_cut_each ?c_cut_each ?k_cut_each ?a_area ?l_area ?c_area ?k_area ?a_cut_off ?l_cut_off ?c_cut_off ?k_cut_off ?a_land_within ?l_land_within ?c_land_within ?k_land_within ?a_takes ?l_takes ?c_takes ?k_takes ?a__law_feed ?l__law_feed ?c__law_feed ?k__law_feed ?a__law_next ?l__law_next ?c__law_next ?k__law_next ?a__law_spots ?l__law_spots ?c__law_spots ?k__law_spots ?a__law_full ?l__law_full ?c__law_full ?k__law_full ?a__law_due ?l__law_due ?c__law_due ?k__law_due ?a__law_told ?l__law_told ?c__law_told ?k__law_told ?a_law ?l_law ?c_law ?k_law ?z_abs ?z_enumerate ?z_isinstance ?z_len ?z_list ?z_max ?z_min ?z_range ?z_super ?z_zip ?a_MOST_SPOTS ?a_LandError ?a_NoBox ?a_TooMany ?a_NoSpot ?a_NoLot ?a_Unknown ?x1_NoBox ?x2_NoBox ?x3_NoBox ?x4_NoBox ?x5_NoBox ?x6_NoBox ?x7_NoBox ?x8_NoBox ?x9_NoBox ?x1_TooMany ?x2_TooMany ?x3_TooMany ?x4_TooMany ?x5_TooMany ?x6_TooMany ?x7_TooMany ?x8_TooMany ?x9_TooMany ?y1_ ?y2_ ?y3_ ?y4_ ?y5_ ?y6_ ?y7_ ?y8_ ?y9_ ?y10_ ?y11_ ?y12_ ?y14_ ?y15_ ?y16_ ?y17_ ?y18_ ?y19_ ?y20_ ?y21_ ?y22_ ?y23_ ?y24_ ?y25_ ?y26_ ?y27_ ?y28_ ?m_NoBox_LandError ?m_TooMany_LandError ?m_NoSpot_LandError ?i_NoBox_NoBox ?i_NoBox_TooMany ?i_NoBox_NoSpot ?i_TooMany_NoBox ?i_TooMany_TooMany ?i_TooMany_NoSpot ?i_NoSpot_NoBox ?i_NoSpot_TooMany ?i_NoSpot_NoSpot ?j_NoBox_NoLot_Unknown ?j_TooMany_NoLot_Unknown ?j_NoSpot_NoLot_Unknown
  (case a_divisor => k_is)
  (case l_divisor => k_is)
  (case c_divisor => k_is)
  (case k_divisor => k_is)
  (case a_sign => k_is)
  (case l_sign => k_is)
  (case c_sign => k_is)
  (case k_sign => k_is)
  (case a_point_of => k_is)
  (case l_point_of => k_is)
  (case c_point_of => k_is)
  (case k_point_of => k_is)
  (case a_spot_point => k_is)
  (case l_spot_point => k_is)
  (case c_spot_point => k_is)
  (case k_spot_point => k_is)
  (case a_fraction_of => k_is)
  (case l_fraction_of => k_is)
  (case c_fraction_of => k_is)
  (case k_fraction_of => k_is)
  (case a_difference => k_is)
  (case l_difference => k_is)
  (case c_difference => k_is)
  (case k_difference => k_is)
  (case a_ahead => k_is)
  (case l_ahead => k_is)
  (case c_ahead => k_is)
  (case k_ahead => k_is)
  (case a_line_of => k_is)
  (case l_line_of => k_is)
  (case c_line_of => k_is)
  (case k_line_of => k_is)
  (case a_between => k_is)
  (case l_between => k_is)
  (case c_between => k_is)
  (case k_between => k_is)
  (case a_excess => k_is)
  (case l_excess => k_is)
  (case c_excess => k_is)
  (case k_excess => k_is)
  (case a_check_box => k_is)
  (case l_check_box => k_is)
  (case c_check_box => k_is)
  (case k_check_box => k_is)
  (case a_has_point => k_is)
  (case l_has_point => k_is)
  (case c_has_point => k_is)
  (case k_has_point => k_is)
  (case a_in_box => k_is)
  (case l_in_box => k_is)
  (case c_in_box => k_is)
  (case k_in_box => k_is)
  (case a_check_count => k_is)
  (case l_check_count => k_is)
  (case c_check_count => k_is)
  (case k_check_count => k_is)
  (case a_check_box_and_spots => k_is)
  (case l_check_box_and_spots => k_is)
  (case c_check_box_and_spots => k_is)
  (case k_check_box_and_spots => k_is)
  (case a_others_of => k_is)
  (case l_others_of => k_is)
  (case c_others_of => k_is)
  (case k_others_of => k_is)
  (case a_box_field => k_is)
  (case l_box_field => k_is)
  (case c_box_field => k_is)
  (case k_box_field => k_is)
  (case a_crossing => k_is)
  (case l_crossing => k_is)
  (case c_crossing => k_is)
  (case k_crossing => k_is)
  (case a_rest => k_is)
  (case l_rest => k_is)
  (case c_rest => k_is)
  (case k_rest => k_is)
  (case a_from_first => k_is)
  (case l_from_first => k_is)
  (case c_from_first => k_is)
  (case k_from_first => k_is)
  (case a_cut => k_is)
  (case l_cut => k_is)
  (case c_cut => k_is)
  (case k_cut => k_is)
  (case a_cut_each => k_is)
  (case l_cut_each => k_is)
  (case c_cut_each => k_is)
  (case k_cut_each => k_is)
  (case a_area => k_is)
  (case l_area => k_is)
  (case c_area => k_is)
  (case k_area => k_is)
  (case a_cut_off => k_is)
  (case l_cut_off => k_is)
  (case c_cut_off => k_is)
  (case k_cut_off => k_is)
  (case a_land_within => k_is)
  (case l_land_within => k_is)
  (case c_land_within => k_is)
  (case k_land_within => k_is)
  (case a_takes => k_is)
  (case l_takes => k_is)
  (case c_takes => k_is)
  (case k_takes => k_is)
  (case a__law_feed => k_is)
  (case l__law_feed => k_is)
  (case c__law_feed => k_is)
  (case k__law_feed => k_is)
  (case a__law_next => k_is)
  (case l__law_next => k_is)
  (case c__law_next => k_is)
  (case k__law_next => k_is)
  (case a__law_spots => k_is)
  (case l__law_spots => k_is)
  (case c__law_spots => k_is)
  (case k__law_spots => k_is)
  (case a__law_full => k_is)
  (case l__law_full => k_is)
  (case c__law_full => k_is)
  (case k__law_full => k_is)
  (case a__law_due => k_is)
  (case l__law_due => k_is)
  (case c__law_due => k_is)
  (case k__law_due => k_is)
  (case a__law_told => k_is)
  (case l__law_told => k_is)
  (case c__law_told => k_is)
  (case k__law_told => k_is)
  (case a_law => k_is)
  (case l_law => k_is)
  (case c_law => k_is)
  (case k_law => k_is)
  (case z_abs => k_is)
  (case z_enumerate => k_is)
  (case z_isinstance => k_is)
  (case z_len => k_is)
  (case z_list => k_is)
  (case z_max => k_is)
  (case z_min => k_is)
  (case z_range => k_is)
  (case z_super => k_is)
  (case z_zip => k_is)
  (case a_MOST_SPOTS => k_is)
  (case a_LandError => k_is)
  (case a_NoBox => k_is)
  (case a_TooMany => k_is)
  (case a_NoSpot => k_is)
  (case a_NoLot => k_is)
  (case a_Unknown => k_is)
  (case x1_NoBox => k_exc)
  (case x2_NoBox => k_is)
  (case x3_NoBox => k_is)
  (case x4_NoBox => k_is)
  (case x5_NoBox => k_is)
  (case x6_NoBox => k_is)
  (case x7_NoBox => k_is)
  (case x8_NoBox => k_is)
  (case x9_NoBox => k_is)
  (case x1_TooMany => k_exc)
  (case x2_TooMany => k_is)
  (case x3_TooMany => k_is)
  (case x4_TooMany => k_is)
  (case x5_TooMany => k_is)
  (case x6_TooMany => k_is)
  (case x7_TooMany => k_is)
  (case x8_TooMany => k_is)
  (case x9_TooMany => k_is)
  (case y1_ => k_is)
  (case y2_ => kernel_rfl)
  (case y3_ => kernel_rfl)
  (case y4_ => k_is)
  (case y5_ => kernel_rfl)
  (case y6_ => k_is)
  (case y7_ => k_is)
  (case y8_ => k_is)
  (case y9_ => k_is)
  (case y10_ => rfl)
  (case y11_ => kernel_rfl)
  (case y12_ => kernel_rfl)
  (case y14_ => k_is)
  (case y15_ => k_is)
  (case y16_ => k_is)
  (case y17_ => k_is)
  (case y18_ => k_is)
  (case y19_ => k_is)
  (case y20_ => k_is)
  (case y21_ => k_is)
  (case y22_ => k_is)
  (case y23_ => k_is)
  (case y24_ => k_is)
  (case y25_ => k_is)
  (case y26_ => k_is)
  (case y27_ => k_is)
  (case y28_ => k_is)
  (case m_NoBox_LandError => kts_exm)
  (case m_TooMany_LandError => kts_exm)
  (case m_NoSpot_LandError => kts_exm)
  (case i_NoBox_NoBox => kit_is)
  (case i_NoBox_TooMany => kit_is)
  (case i_NoBox_NoSpot => kit_is)
  (case i_TooMany_NoBox => kit_is)
  (case i_TooMany_TooMany => kit_is)
  (case i_TooMany_NoSpot => kit_is)
  (case i_NoSpot_NoBox => kit_is)
  (case i_NoSpot_TooMany => kit_is)
  (case i_NoSpot_NoSpot => kit_is)
  (case j_NoBox_NoLot_Unknown => kit_is)
  (case j_TooMany_NoLot_Unknown => kit_is)
  (case j_NoSpot_NoLot_Unknown => kit_is)
